"""[9.3] alike_paper, shows_alike."""

import copy
import unittest

from shellways.alike import alike, alike_paper, shows_alike
from shellways.errors import InvalidProgram, TooLarge
from shellways.machines import machine, situations
from shellways.texts import read_program
from tests.test_alike import ALIKE, PARTED, pairs_of_samples
from tests.trees import A, B, main, seq
from tests.wrong import NO_PROGRAMS, assert_error

KEEPING = ("a ; keep x ; b ; keep y ; c ; give x", "a ; keep y ; b ; keep x ; c ; give y")


def plain_shows(program, other, paper):
    """The conditions for a paper, over the machines as lists."""
    one, two = machine(program), machine(other)
    if not isinstance(paper, (list, tuple)) or (0, 0, ()) not in paper:
        return False
    for i, j, links in paper:
        left, right = one[i], two[j]
        if left[0] == "ask" and right[0] == "ask":
            if left[2] != right[2]:
                return False
            for side in (4, 5):
                (next_i, moves_i), (next_j, moves_j) = left[side], right[side]
                joined = [(a, b) for a, x in enumerate(moves_i) for b, y in enumerate(moves_j)
                          if x == y == "now" or (x, y) in links]
                if (next_i, next_j, tuple(sorted(joined))) not in paper:
                    return False
        elif left != right or left == ("end", "slot") and (0, 0) not in links:
            return False
    return True


class Papers(unittest.TestCase):
    def assert_paper(self, program, other):
        paper = alike_paper(program, other)
        self.assertIs(type(paper), list)
        self.assertIs(shows_alike(program, other, paper), True)
        self.assertTrue(plain_shows(program, other, paper))
        for i, j, links in paper:
            self.assertEqual([type(i), type(j), type(links)], [int, int, tuple])
            self.assertEqual(list(links), sorted(set(links)))
        return paper

    def test_example(self):
        paper = [(0, 0, ()), (1, 1, ()), (2, 2, ((0, 0),))]
        self.assertIs(shows_alike(((), ('run', 'a')), ((), ('sub', ('run', 'a'))), paper), True)

    def test_alike(self):
        for one, other in ALIKE + (KEEPING,):
            one, other = read_program(one), read_program(other)
            for pair in ((one, other), (other, one), (one, one)):
                self.assert_paper(*pair)

    def test_parted(self):
        for one, other, _, _ in PARTED:
            one, other = read_program(one), read_program(other)
            self.assertIsNone(alike_paper(one, other))
            self.assertIs(shows_alike(one, other, [(0, 0, ())]), False)
            everything = [(i, j, ()) for i in range(situations(one)) for j in range(situations(other))]
            self.assertIs(shows_alike(one, other, everything), False)

    def test_samples(self):
        shown = 0
        for program, other in pairs_of_samples(range(7000, 7300), (6, 12, 25)):
            if alike(program, other):
                self.assert_paper(program, other)
                shown += 1
            else:
                self.assertIsNone(alike_paper(program, other))
        self.assertGreater(shown, 60)

    def test_papers_changed(self):
        """Told, turned about, doubled, with an entry less or more, with other links."""
        program, other = [read_program(text) for text in KEEPING]
        paper = self.assert_paper(program, other)
        for changed in (tuple(paper), paper[::-1], paper + paper, paper + paper[:3], sorted(paper, key=str)):
            self.assertIs(shows_alike(program, other, changed), True)
        for at, entry in enumerate(paper):
            self.assertIs(shows_alike(program, other, paper[:at] + paper[at + 1:]), False)
            i, j, links = entry
            for links in (links[1:], links + ((0, 0),), links[::-1], links + ((0, 1),), (), links + ((5, 5),), links + links,
                          links + ((-1, 0),), ((0, 0), (1, 1)), ((0, 1), (1, 0)), ((1, 0), (0, 1)), ((0, 0), (0, 1))):
                if links != entry[2]:
                    changed = paper[:at] + [(i, j, links)] + paper[at + 1:]
                    self.assertIs(shows_alike(program, other, changed), False, (entry, links))
            for wrong in ((i + 1, j, links), (i, j + 1, links), (i, j), (i, j, links, ()), None, [i, j, links], (i, j, list(links)),
                          (j, i), (str(i), j, links), (i, None, links), (-1, j, links), (i, 10 ** 30, links), {}, [], "abc"):
                self.assertIs(shows_alike(program, other, paper[:at] + [wrong] + paper[at + 1:]), False)
                if wrong is None or len(wrong) != 3 or not isinstance(wrong, tuple):
                    self.assertIs(shows_alike(program, other, paper + [wrong]), False)

    def test_more_than_needed(self):
        program = read_program("a ; b")
        other = read_program("a ; ( b )")
        paper = self.assert_paper(program, other)
        end, slot = [machine(program).index(entry) for entry in (("end", 0), ("end", "slot"))]
        self.assertEqual(machine(program)[end], machine(other)[end])
        for more in ((1, 1, ()), (end, end, ()), (slot, slot, ((0, 0),))):
            self.assertIs(shows_alike(program, other, paper + [more]), True)
        for more in ((0, 1, ()), (slot, slot, ()), (end, slot, ()), (slot, end, ()), (0, end, ()), (end, end, ((0, 0),))):
            self.assertIs(shows_alike(program, other, paper + [more]), False)

    def test_links_of_more_tuples(self):
        """Links are ascending pairs of slots, and no slot is linked twice."""
        program = read_program("a ; keep x ; b ; keep y ; c ; status 0")
        paper = self.assert_paper(program, program)
        full = [number for number, entry in enumerate(machine(program)) if entry[0] == "ask" and entry[3] == 2][0]
        for links in ((), ((0, 0),), ((0, 1),), ((1, 0),), ((0, 0), (1, 1)), ((0, 1), (1, 0))):
            self.assertIs(shows_alike(program, program, paper + [(full, full, links)]), True, links)
        for links in (((1, 1), (0, 0)), ((1, 0), (0, 1)), ((0, 0), (0, 0)), ((0, 0), (0, 1)), ((0, 0), (1, 0)), ((0, 2),), ((2, 0),),
                      ((0, -1),), ((-1, 0),), ((0, 0), (1, 1), (1, 1))):
            self.assertIs(shows_alike(program, program, paper + [(full, full, links)]), False, links)

    def test_links_between_other_numbers_of_slots(self):
        two, one = read_program("a ; keep x ; b ; keep y ; c ; status 0"), read_program("a ; keep x ; b ; c ; status 0")
        paper, turned = self.assert_paper(two, one), self.assert_paper(one, two)
        places = [[number for number, entry in enumerate(machine(program)) if entry[0] == "ask" and entry[3] == slots][-1]
                  for program, slots in ((two, 2), (one, 1))]
        for links, right in ((((1, 0),), True), (((0, 0),), True), (((0, 1),), False), (((1, 1),), False)):
            back = tuple((b, a) for a, b in links)
            self.assertIs(shows_alike(two, one, paper + [(places[0], places[1], links)]), right)
            self.assertIs(shows_alike(one, two, turned + [(places[1], places[0], back)]), right)

    def test_more_situations_than_rows_lead_to(self):
        """Tuples that no row leads to may occur if what is behind them does, too."""
        one = read_program("a ; if a then b else b end")
        self.assertIs(alike(one, one), True)
        paper = self.assert_paper(one, one)
        entries = machine(one)
        asking = [number for number, entry in enumerate(entries) if entry[0] == "ask" and entry[2] == "b"]
        self.assertEqual(len(asking), 2)
        mixed = [(asking[0], asking[1], ()), (asking[1], asking[0], ())]
        self.assertIs(shows_alike(one, one, paper + mixed), True)
        self.assertIs(shows_alike(one, one, mixed + paper), True)

    def test_slots_that_no_link_joins(self):
        # x is held, but never given back.
        program, other = read_program("a ; keep x ; b ; status 0"), read_program("a ; b ; status 0")
        self.assertEqual(self.assert_paper(program, other)[-1][2], ())
        self.assertTrue(all(links == () for _, _, links in alike_paper(program, other)))

    def test_kinds_of_papers(self):
        program = main(A)
        for paper in (None, 3, "paper", {}, {(0, 0, ()): True}, set(), object(), [], (), [()], [None], [(0, 0)], [[0, 0, ()]],
                      [(0, 0, [])], [(0, 0, None)], [(False, 0, ())], [(0, False, ())], [(0, 0, "")], b"", range(3), True):
            self.assertIs(shows_alike(program, program, paper), False)
        right = [(0, 0, ()), (1, 1, ()), (2, 2, ((0, 0),))]
        self.assertIs(shows_alike(program, program, right), True)
        for at, wrong in ((0, (False, 0, ())), (1, (True, 1, ())), (1, (1, True, ())), (2, (2, 2, ((0, False),))),
                          (2, (2, 2, ([0, 0],))), (2, (2, 2, ((0, 0, 0),))), (2, (2, 2, ((0,),))), (2, (2, 2, (0, 0))),
                          (2, (2, 2, ((0, 0), (0, 0)))), (2, (2, 2, [(0, 0)])), (2, (2, 2, ({},)))):
            self.assertIs(shows_alike(program, program, right[:at] + [wrong] + right[at + 1:]), False)
            self.assertIs(shows_alike(program, program, right + [wrong]), False)

    def test_errors(self):
        large = main(("times", 999, A))
        for value, path in NO_PROGRAMS:
            assert_error(self, InvalidProgram, path, alike_paper, value, None)
            assert_error(self, InvalidProgram, path, alike_paper, large, value)
            assert_error(self, InvalidProgram, path, shows_alike, value, None, None)
            assert_error(self, InvalidProgram, path, shows_alike, large, value, None)
        for pair in ((large, main(A)), (main(A), large), (large, large)):
            assert_error(self, TooLarge, 1000, alike_paper, *pair)
            assert_error(self, TooLarge, 1000, shows_alike, *pair, None)
        self.assertEqual(len(self.assert_paper(main(("times", 998, A)), main(("times", 998, A)))), 1000)

    def test_too_many_pairs(self):
        # 61 and 37 situations that ask, in step with one another.
        loops = [main(("while", ("status", 0), ("times", many, A))) for many in (61, 37)]
        assert_error(self, TooLarge, 2000, alike_paper, *loops)
        assert_error(self, TooLarge, 2000, alike, *loops)
        loops = [main(("while", ("status", 0), ("times", many, ("not", A)))) for many in (50, 39)]
        self.assertLessEqual(len(self.assert_paper(*loops)), 2000)

    def test_keywords_new_lists_and_no_change(self):
        program, other = main(A), main(("sub", A))
        paper = alike_paper(program=program, other=other)
        before = copy.deepcopy(paper)
        self.assertIs(shows_alike(program=program, other=other, paper=paper), True)
        self.assertEqual(paper, before)
        paper.clear()
        self.assertEqual(alike_paper(program, other), before)
        self.assertIsNone(alike_paper(main(seq(A, B)), main(B)))


if __name__ == "__main__":
    unittest.main()
