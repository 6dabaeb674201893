"""Alike as a relation: the same both ways, from one program to the next; and the errors of stage 9."""

import itertools
import unittest

from shellways.alike import (
    alike, alike_if_sure, alike_in, alike_paper, fewest_failures, filled, least_sure, parting_row, shows_alike, shows_parting,
)
from shellways.errors import InvalidName, InvalidProgram, InvalidRow, TooLarge
from shellways.live import Live, same_future
from shellways.machines import machine
from shellways.programs import command_names
from shellways.rewriting import flat, leaned, without_functions
from shellways.shells import run
from shellways.texts import read_program
from tests.follow import small_samples
from tests.trees import A, B, main
from tests.wrong import NO_PROGRAMS, NO_ROWS, assert_error

LARGE = read_program("times 500 do a ; b end")


def families():
    """Lists of programs, some of which are alike."""
    for program in small_samples(range(60), most=20):
        functions, tree = program
        yield [program, (functions, ("sub", tree)), (functions, ("seq", (tree, ("exit", None)))), (functions, ("not", ("not", tree))),
               (functions, ("and", tree, ("status", 0))), leaned(program) if len(str(program)) < 200 else program, flat(program)]


class Relation(unittest.TestCase):
    def test_same_both_ways_and_from_one_to_the_next(self):
        found = {True: 0, False: 0}
        for programs in families():
            many = range(len(programs))
            same = {(i, j): alike(programs[i], programs[j]) for i in many for j in many}
            for i, j in itertools.product(many, repeat=2):
                found[same[i, j]] += 1
                self.assertIs(same[i, j], same[j, i])
                self.assertTrue(i != j or same[i, j])
                self.assertIs(same_future(Live(programs[i]), Live(programs[j])), same[i, j])
                for k in many:
                    if same[i, j] and same[j, k]:
                        self.assertTrue(same[i, k])
        self.assertGreater(min(found.values()), 200)

    def test_rows_papers_and_failures_fit_one_another(self):
        for programs in families():
            for one, other in itertools.combinations(programs[:5], 2):
                row, back = parting_row(one, other), parting_row(other, one)
                paper, fewest = alike_paper(one, other), fewest_failures(one, other)
                self.assertEqual([row is None, back is None, paper is not None, fewest is None], [alike(one, other)] * 4)
                self.assertEqual(fewest, fewest_failures(other, one))
                if row is None:
                    self.assertTrue(shows_alike(one, other, paper))
                    turned = [(j, i, tuple(sorted((t, s) for s, t in links))) for i, j, links in paper]
                    self.assertTrue(shows_alike(other, one, tuple(turned)))
                else:
                    self.assertEqual(len(row), len(back))
                    for part in (row, back):
                        self.assertTrue(shows_parting(one, other, part))
                        self.assertTrue(shows_parting(other, one, tuple(part)))
                        self.assertNotEqual(run(one, part), run(other, part))
                    self.assertLessEqual(fewest, sum(value > 0 for value in row))

    def test_failures_of_parting_rows_are_no_numbers_of_programs(self):
        for number in (1, 2, 254, 255):
            for more in range(4):
                start = [A] * more
                one, other = main(*start, B), main(*start, ("or", B, ("status", number)))
                row = parting_row(one, other)
                self.assertEqual(len(row), more + 1)
                self.assertTrue(shows_parting(one, other, row), row)

    def test_links_of_other_kinds(self):
        # The failure of a is held while b is asked for.
        program = read_program("a ; keep x ; b ; give x")
        paper = alike_paper(program, program)
        place = [at for at, (i, _, links) in enumerate(paper) if links and machine(program)[i][0] == "ask"][0]
        i, j, links = paper[place]
        self.assertEqual(links, ((0, 0),))
        for link in (None, 0, (), (0,), (0, 0, 0), [0, 0], "00", b"00", {0: 0}, (0, None), (None, 0), (False, 0), (0, False), ("0", 0),
                     ((0,), 0), object(), Live(program), (0, 1j)):
            for value in ((link,), (link, (0, 0)), ((0, 0), link)):
                self.assertIs(shows_alike(program, program, paper[:place] + [(i, j, value)] + paper[place + 1:]), False, value)
                self.assertIs(shows_alike(program, program, paper + [(i, j, value)]), False, value)

    def test_sure_commands(self):
        for programs in families():
            for one, other in itertools.combinations(programs[:5], 2):
                names = sorted({*command_names(one)[0], *command_names(other)[0]})
                least = least_sure(one, other)
                self.assertEqual(least, least_sure(other, one))
                self.assertIs(alike_if_sure(one, other, []), alike(one, other))
                if least is not None:
                    self.assertTrue(alike_if_sure(one, other, least))
                    self.assertTrue(alike_if_sure(other, one, list(least)))
                    self.assertTrue(alike_if_sure(one, other, names))
                    self.assertEqual(least == (), alike(one, other))
                else:
                    self.assertFalse(alike_if_sure(one, other, names))

    def test_filled_programs(self):
        for program in small_samples(range(30), most=12):
            for tree, other in ((A, ("sub", A)), (A, ("not", ("not", A))), (("and", A, B), ("seq", (A, B)))):
                same = alike(filled(program, "c", tree), filled(program, "c", other))
                self.assertIs(alike_in(program, "c", tree, other), same)
                self.assertIs(alike_in(program, "c", other, tree), same)

    def test_two_thousand_pairs(self):
        for more, fits in (("", True), ("a ; a ; ", True), ("a ; a ; a ; ", False)):
            text = "times 665 do a ; b ; a end ; " + more
            one, other = read_program(text + "c"), read_program(text + "( c )")
            calls = ((alike, (), True), (parting_row, (), None), (fewest_failures, (), None), (alike_if_sure, ([],), True),
                     (least_sure, (), ()))
            for function, rest, expected in calls:
                if fits:
                    self.assertEqual(function(one, other, *rest), expected)
                    self.assertEqual(function(other, one, *rest), expected)
                else:
                    assert_error(self, TooLarge, 2000, function, one, other, *rest)
            if fits:
                self.assertIs(alike_in(read_program(text + "x"), "x", ("run", "c"), ("sub", ("run", "c"))), True)
            else:
                assert_error(self, TooLarge, 2000, alike_in, read_program(text + "x"), "x", ("run", "c"), ("sub", ("run", "c")))

    def test_eight_and_nine_commands(self):
        names = "abcdefghi"
        for many in (8, 9):
            one = read_program(" ; ".join(names[:many]))
            other = read_program(" ; ".join(names[:many]) + " && exit")
            if many == 8:
                self.assertEqual(least_sure(one, other), ())
            else:
                assert_error(self, TooLarge, 8, least_sure, one, other)
        # Commands of both programs count together, also those that are never asked for.
        one, other = ((("g", ("run", "i")),), read_program("a ; b ; c ; d")[1]), read_program("a ; b ; c ; d ; ( e ; f ; g ; h )")
        assert_error(self, TooLarge, 8, least_sure, one, other)
        assert_error(self, TooLarge, 8, least_sure, other, one)

    def test_errors(self):
        both = (alike, parting_row, fewest_failures, least_sure, alike_paper)
        for program, path in NO_PROGRAMS:
            for function in both:
                assert_error(self, InvalidProgram, path, function, program, None)
                assert_error(self, InvalidProgram, path, function, LARGE, program)
            for function, more in ((alike_if_sure, 3), (shows_parting, 3), (shows_alike, 3)):
                assert_error(self, InvalidProgram, path, function, program, None, more)
                assert_error(self, InvalidProgram, path, function, LARGE, program, more)
            assert_error(self, InvalidProgram, path, filled, program, 3, None)
            assert_error(self, InvalidProgram, path, alike_in, program, 3, None, None)
        for row, index in NO_ROWS:
            assert_error(self, InvalidRow, index, shows_parting, LARGE, LARGE, row)
        for value in (None, 3, "A", "", "if", {"a"}, {}, True, object(), Live(LARGE)):
            assert_error(self, InvalidName, value, alike_if_sure, LARGE, LARGE, value)
            assert_error(self, InvalidName, value, alike_if_sure, LARGE, LARGE, ["a", value, None])
            assert_error(self, InvalidName, value, filled, LARGE, value, None)
            assert_error(self, InvalidName, value, alike_in, LARGE, value, 3, 4)
        for function in (alike_paper, shows_alike):
            more = () if function is alike_paper else ([],)
            assert_error(self, TooLarge, 1000, function, LARGE, main(A), *more)
            assert_error(self, TooLarge, 1000, function, main(A), LARGE, *more)
        assert_error(self, InvalidProgram, (-1, 0), filled, main(("run", "x"), B), "x", None)
        assert_error(self, InvalidProgram, (-1, 0), alike_in, main(("run", "x"), B), "x", None, 3)
        assert_error(self, InvalidProgram, (-1, 0), alike_in, main(("run", "x"), B), "x", A, ("break", 1))
        self.assertIs(alike_in(main(B), "x", None, 3), True)

    def test_rewritten_programs(self):
        program = read_program("def g { a && return 3 ; b } option fail on ; call g || c ; call g")
        others = [without_functions(program), flat(program), leaned(program)]
        for one, other in itertools.product([program] + others, repeat=2):
            self.assertTrue(alike(one, other))


if __name__ == "__main__":
    unittest.main()
