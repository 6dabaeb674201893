"""How seldom commands can fail in endless runs."""

import unittest
from fractions import Fraction
from math import gcd

from shellways.errors import InvalidNumber, InvalidProgram, TooLarge
from shellways.machines import after, machine
from shellways.shares import least_share, potentials, shows_share
from shellways.shells import run
from shellways.texts import read_program
from tests.brute import told
from tests.follow import nexts_of, small_samples
from tests.trees import A, B, main, status
from tests.wrong import NO_PROGRAMS, assert_error

UNTIL = main(("until", A, B))
LARGE = read_program("times 500 do a ; b end")


def cycle_shares(nexts):
    """The shares of all rounds in which no situation comes twice, and whether it has only zeros."""
    shares = set()

    def go(path, bits):
        for failed, other in enumerate(nexts[path[-1]]):
            if other == path[0]:
                shares.add(Fraction(sum(bits) + failed, len(bits) + 1))
            elif other > path[0] and other not in path:
                go(path + [other], bits + [failed])
    for number in range(len(nexts)):
        go([number], [])
    return shares


def fewest_failures(nexts):
    """The fewest failures of an endless run with finitely many."""
    def goes_on(number):
        for _ in nexts:
            if not nexts[number]:
                return False
            number = nexts[number][0]
        return bool(nexts[number])
    reach = {0}
    for failures in range(len(nexts) + 1):
        for _ in nexts:
            reach |= {nexts[number][0] for number in reach if nexts[number]}
        if any(goes_on(number) for number in reach):
            return failures
        reach |= {nexts[number][1] for number in reach if nexts[number]}
    return None


def shows(nexts, top, bottom, thing):
    if type(thing) is not list or len(thing) != len(nexts) or any(type(value) is not int for value in thing):
        return False
    for number, both in enumerate(nexts):
        for failed, other in enumerate(both):
            if thing[other] > thing[number] - top + (bottom if failed else 0):
                return False
    return True


class Shares(unittest.TestCase):
    def test_examples(self):
        self.assertEqual(least_share(UNTIL)[:3], ("share", 1, 2))
        self.assertEqual(least_share(main(("or", A, B))), ("finite",))

    def test_programs(self):
        for text, expected in (
                ("a", ("finite",)), ("while status 0 do status 0 end", ("finite",)), ("exit 1", ("finite",)),
                ("while a do b end", ("few", 0)), ("until a do status 0 end", ("share", 1, 1)),
                ("until a do b end ; while c do d end", ("few", 0)), ("a || while b do c end", ("few", 1)),
                ("a || b || c || while d do a end", ("few", 3)), ("until a do b ; c end", ("share", 1, 3)),
                ("until a do b || exit 0 ; c ; ! d end", ("share", 1, 4)), ("until a || b do c end", ("share", 2, 3)),
                ("until a do times 9 do b end end", ("share", 1, 10)), ("until a || b || c do d || e end", ("share", 3, 4)),
                ("until a do until b do c end ; d end", ("share", 1, 3)),
                ("while ! a do until b do c && exit 3 end end", ("share", 1, 2)),
                ("until a do b && exit 3 end", ("share", 1, 1)), ("until a do b && exit 3 ; c end", ("share", 2, 3)),
                ("until a do b && exit 3 ; c ; d ; e && exit 3 end", ("share", 3, 5)),
                ("until a || b do c ; d end", ("share", 1, 2)), ("until a do b ; c && exit 3 ; d end", ("share", 1, 2))):
            found = least_share(read_program(text))
            self.assertEqual(found[:len(expected)], expected, text)
            self.check(read_program(text))

    def check(self, program):
        found = least_share(program)
        nexts = nexts_of(program)
        self.assertIs(type(found), tuple)
        shown = potentials(program)
        if found[0] == "share":
            _, top, bottom, row, again = found
            self.assertEqual([type(row), type(again), gcd(top, bottom)], [list, list, 1])
            self.assertEqual(Fraction(sum(again), len(again)), Fraction(top, bottom))
            self.assertTrue(shows(nexts, top, bottom, shown), program)
            self.assertTrue(shows_share(program, top, bottom, shown))
            self.assertTrue(shows_share(program, top * 3, bottom * 3, [3 * value for value in shown]))
        else:
            self.assertIsNone(shown)
        if found[0] == "few":
            _, failures, row, again = found
            self.assertEqual([sum(row), sum(again), failures], [failures, 0, fewest_failures(nexts)], program)
        if found[0] != "finite":
            self.assertTrue(again)
            self.assertLessEqual(set(map(repr, row + again)), {"0", "1"})
            self.assertEqual(run(program, told(row + again + again))[1][0], "asks")
            self.assertEqual(after(program, told(row))[0], after(program, told(row + again))[0])

    def test_samples(self):
        found = set()
        for program in small_samples(range(300), most=14):
            self.check(program)
            result = least_share(program)
            shares = cycle_shares(nexts_of(program))
            self.assertEqual(result[0] == "finite", not shares)
            if shares and 0 not in shares:
                self.assertEqual(Fraction(result[1], result[2]), min(shares))
            found.add(result[0])
        self.assertEqual(found, {"finite", "few", "share"})

    def test_many_situations(self):
        self.check(read_program("until c do times 200 do a && b ; a || b end end"))
        self.check(read_program("until times 100 do a || b end do times 100 do until c do d end end end"))
        self.check(read_program("until a do times 333 do b ; c && exit 1 end end"))

    def test_shows_share(self):
        nexts = nexts_of(UNTIL)
        shown = potentials(UNTIL)
        for top, bottom in ((0, 1), (1, 3), (1, 2), (2, 4), (1, 1), (5, 9), (4, 9), (9, 4), (0, 7)):
            for scale in (1, 2, 3):
                base = [scale * value for value in shown]
                for thing in [base, [0] * len(nexts)] + [
                        base[:place] + [base[place] + more] + base[place + 1:]
                        for place in range(len(base)) for more in (-9, -1, 1, 9)]:
                    self.assertIs(shows_share(UNTIL, top, bottom, thing), shows(nexts, top, bottom, thing))
        self.assertFalse(any(shows_share(UNTIL, 2, 3, [a, b, c, 0, 0]) for a in range(-5, 5)
                             for b in range(-5, 5) for c in range(-5, 5)))

    def test_other_kinds(self):
        program = main(A)
        self.assertTrue(shows_share(program, 0, 1, [0, 0, 0]))
        self.assertTrue(shows_share(program, 10 ** 40, 1, [10 ** 40, 0, -10 ** 50]))
        for thing in (None, 0, (0, 0, 0), [0, 0], [0, 0, 0, 0], [0, False, 0], [True, 0, 0], [0, 0, None], [0, 0, [0]],
                      {}, "000", b"000", range(3), [0, 0, 1j], object()):
            self.assertIs(shows_share(program, 0, 1, thing), False)

    def test_potentials_of_situations_that_lead_nowhere(self):
        program = main(("until", A, ("or", B, ("exit", 0))))
        shown = potentials(program)
        _, top, bottom, _, _ = least_share(program)
        self.assertEqual(len(shown), len(machine(program)))
        for number, entry in enumerate(machine(program)):
            if entry[0] != "ask":
                changed = list(shown)
                changed[number] = max(shown) + top + bottom + 1
                self.assertFalse(shows_share(program, top, bottom, changed))

    def test_errors(self):
        for function in (least_share, potentials):
            for program, path in NO_PROGRAMS:
                assert_error(self, InvalidProgram, path, function, program)
            assert_error(self, TooLarge, 1000, function, LARGE)
        for program, path in NO_PROGRAMS:
            assert_error(self, InvalidProgram, path, shows_share, program, -1, 0, [])
        for value in (None, True, False, -1, "1", (1, 2), [1], 1j, object()):
            assert_error(self, InvalidNumber, "top", shows_share, LARGE, value, 0, [])
            assert_error(self, InvalidNumber, "bottom", shows_share, LARGE, 0, value, [])
        assert_error(self, InvalidNumber, "bottom", shows_share, LARGE, 0, 0, [])
        assert_error(self, TooLarge, 1000, shows_share, LARGE, 0, 1, [])
        self.assertIs(shows_share(main(status(0)), 0, 1, [5]), True)

    def test_results_are_new(self):
        for function in (least_share, potentials):
            first, second = function(UNTIL), function(UNTIL)
            self.assertEqual(first, second)
            self.assertIsNot(first, second)
        self.assertIsNot(least_share(UNTIL)[4], least_share(UNTIL)[4])


if __name__ == "__main__":
    unittest.main()
