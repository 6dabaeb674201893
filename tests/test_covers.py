"""Rows that take all steps, and steps of which no run takes two."""

import itertools
import unittest

from shellways.covers import apart, are_apart, takes_all, tests
from shellways.errors import InvalidProgram, TooLarge
from shellways.live import Live
from shellways.machines import machine
from shellways.texts import read_program
from tests.follow import closure, nexts_of, small_samples
from tests.trees import A, B, main, status
from tests.wrong import NO_PROGRAMS, assert_error

AND = main(("and", A, B))


def steps_of(nexts):
    return [(number, failed) for number, both in enumerate(nexts) for failed in (False, True) if both]


def steps_on(nexts, row):
    """The steps of a row, None if it cannot be told."""
    number, found = 0, set()
    for bit in row:
        if not nexts[number]:
            return None
        found.add((number, bool(bit)))
        number = nexts[number][bit]
    return found


def takes(nexts, rows):
    if type(rows) is not list:
        return False
    found = set()
    for row in rows:
        if type(row) is not list or any(type(bit) is not int or bit not in (0, 1) for bit in row):
            return False
        steps = steps_on(nexts, row)
        if steps is None:
            return False
        found |= steps
    return found == set(steps_of(nexts))


def parted(nexts, steps):
    if type(steps) is not list:
        return False
    for step in steps:
        if type(step) is not tuple or len(step) != 2 or type(step[0]) is not int or type(step[1]) is not bool:
            return False
        if step not in steps_of(nexts):
            return False
    if len(set(steps)) < len(steps):
        return False
    return not any(one != other and other[0] in closure(nexts, nexts[one[0]][one[1]]) for one in steps for other in steps)


class Covers(unittest.TestCase):
    def test_example(self):
        self.assertEqual([len(tests(AND)), len(apart(AND)), takes_all(AND, [[1], [0, 0], [0, 1]]),
                          are_apart(AND, [(0, True), (1, False), (1, True)]), are_apart(AND, [(0, False), (1, True)])],
                         [3, 3, True, True, False])

    def check(self, program):
        nexts = nexts_of(program)
        rows, steps = tests(program), apart(program)
        self.assertTrue(takes(nexts, rows), program)
        self.assertTrue(takes_all(program, rows))
        self.assertTrue(parted(nexts, steps), program)
        self.assertTrue(are_apart(program, steps))
        # Each row takes one of the steps at most, so there cannot be fewer rows.
        self.assertEqual(len(rows), len(steps))
        return len(rows)

    def test_numbers_of_rows(self):
        for text, many in (
                ("a", 2), ("a ; b", 2), ("a && b", 3), ("a || b || c", 4), ("if a then b else c end", 4), ("until a do b end", 2),
                ("while a do b && exit 3 end", 3), ("a && exit 3 ; until b do c end", 3), ("until a do b || exit 4 end ; c", 3),
                ("a | b | c", 5), ("a ; b ; if c then d else a end", 4), ("status 0", 0), ("while status 0 do status 0 end", 0),
                ("while status 0 do a end", 1), ("until a do b end ; until b do a end ; c", 2), ("a && b ; c || b ; a", 3),
                ("option fail on ; times 99 do a end", 100), ("times 49 do a ; b end", 2), ("trap end { a } ; b || c", 4)):
            self.assertEqual(self.check(read_program(text)), many, text)

    def test_programs_without_steps(self):
        for program in (main(status(0)), main(("exit", 3)), main(("while", status(0), status(0)))):
            self.assertEqual([tests(program), apart(program)], [[], []])
            for value, good in (([], True), ([[]], True), ([[], []], True), ([[0]], False), ((), False), (None, False)):
                self.assertIs(takes_all(program, value), good)
            for value, good in (([], True), ([(0, True)], False), ((), False), ([(0, False)], False)):
                self.assertIs(are_apart(program, value), good)

    def test_samples(self):
        found = set()
        for program in small_samples(range(400), sizes=(3, 5, 8, 12, 20, 30), most=100):
            found.add(self.check(program))
        self.assertGreater(len(found), 8)

    def test_no_fewer_rows(self):
        for program in small_samples(range(60), most=7):
            nexts = nexts_of(program)
            if not nexts[0]:
                continue
            rows = [row for length in range(6) for row in map(list, itertools.product((0, 1), repeat=length))
                    if steps_on(nexts, row) is not None]
            many = len(tests(program))
            for fewer in range(many):
                if len(rows) ** fewer < 30000:
                    self.assertFalse(any(takes(nexts, list(chosen)) for chosen in itertools.combinations(rows, fewer)))

    def test_more_rows_than_needed(self):
        for rows, good in (([[1], [0, 0], [0, 1], [], [1], [0]], True), ([[0, 1], [0, 0]], False), ([[1], [0, 0], [0, 1], [1, 0]], False),
                           ([[0, 0], [0, 1]], False), ([[0, 0, 0], [1], [0, 1]], False), ([[1], [0, 1], [0, 0]], True)):
            self.assertIs(takes_all(AND, rows), good, rows)
        loop = main(("until", A, B))
        self.assertIs(takes_all(loop, [[0], [1, 0, 1, 1, 1, 1, 0]]), True)
        self.assertIs(takes_all(loop, [[1, 0, 1, 1, 1, 1, 0]]), False)

    def test_things_of_other_kinds(self):
        for rows in (None, True, 3, "10", b"1", {}, set(), (), ([1], [0, 0], [0, 1]), [(1,), [0, 0], [0, 1]], [[True], [0, 0], [0, 1]],
                     [[1], [0, False], [0, 1]], [[1], [0, 0], [0, 2]], [[1], [0, 0], [0, -1]], [[1], [0, 0], [0, None]], [None],
                     [[1], [0, 0], [0, 1], None], ["1"], [[1], [0, 0], ["0", 1]], [[1], [0, 0], [0, 1], (0,)], [[[1]]], object(),
                     Live(AND), [Live(AND)], [[1j]], [range(1)]):
            self.assertIs(takes_all(AND, rows), False)
            self.assertIs(takes(nexts_of(AND), rows), False)
        for steps in (None, True, 3, "ab", {}, set(), (), ((0, True),), [None], [0], [(0,)], [(0, 1)], [(0, True, 1)], [[0, True]],
                      [(False, True)], [(True, True)], [(0, None)], [(-1, True)], [(2, True)], [(9, True)], [(10 ** 30, False)], [("0", True)],
                      [(0, True), (0, True)], [(0, False), (0, False)], [((0,), True)], object(), Live(AND), [Live(AND)], [(1j, True)],
                      [(0, 0)], [(1, False), (1, False)], [(0, True), None]):
            self.assertIs(are_apart(AND, steps), False)
        for steps, good in (([(0, True)], True), ([(1, True), (0, True)], True), ([(1, True), (0, False)], False), ([], True),
                            ([(1, True), (1, False)], True), ([(4, True)], False), ([(3, True)], False), ([(2, False)], False)):
            self.assertIs(are_apart(AND, steps), good)
            self.assertIs(parted(nexts_of(AND), steps), good)

    def test_steps_that_lead_to_one_another(self):
        loop = main(("until", A, B))
        nexts = nexts_of(loop)
        for one, other in itertools.product(steps_of(nexts), repeat=2):
            self.assertIs(are_apart(loop, [one, other]), parted(nexts, [one, other]))
        self.assertIs(are_apart(loop, [(0, True)]), True)
        # The last situation asks, too.
        loop = read_program("while status 0 do a ; keep x ; b end")
        last = len(machine(loop)) - 1
        self.assertEqual([are_apart(loop, [(number, True)]) for number in (last, -1, last + 1)], [True, False, False])

    def test_limits(self):
        program = read_program("times 50 do a ; b end")
        self.assertEqual(sum(len(both) for both in nexts_of(program)), 200)
        self.check(program)
        for function, more in ((tests, ()), (apart, ()), (takes_all, (None,)), (are_apart, (None,))):
            for value, path in NO_PROGRAMS:
                assert_error(self, InvalidProgram, path, function, value, *more)
            assert_error(self, TooLarge, 200, function, read_program("times 50 do a ; b end ; c"), *more)
            assert_error(self, TooLarge, 200, function, read_program("times 499 do a ; b end"), *more)
            assert_error(self, TooLarge, 1000, function, read_program("times 500 do a ; b end"), *more)

    def test_results_are_new(self):
        self.assertEqual(tests(AND), tests(AND))
        self.assertEqual([{type(row) for row in tests(AND)}, {type(step) for step in apart(AND)}], [{list}, {tuple}])
        rows = tests(AND)
        rows[0].append(5)
        self.assertTrue(takes_all(AND, tests(AND)))
        self.assertEqual(len(machine(AND)), 4)


if __name__ == "__main__":
    unittest.main()
