"""Arguments of run and asked_paths that are no programs or no rows."""

import unittest

from shellways.errors import InvalidProgram, InvalidRow
from shellways.shells import asked_paths, run
from tests.trees import A, B, main, status

PROGRAM = main(("until", A, B))
NO_ROWS = (None, True, 0, 5, "", "00", b"", b"\x00", {}, {0: 1}, set(), {0}, frozenset(),
           range(3), iter([0]), 1j, int, len, object(), bytearray(b"\x00"), memoryview(b"\x00"),
           InvalidRow(0))
NO_STATUSES = (None, True, False, -1, -(10 ** 5000), "", "0", b"\x00", (), (0,), [], [0], {},
               {0: 0}, set(), frozenset(), 1j, range(1), int, len, object(), Ellipsis,
               InvalidRow(0))


class Rows(unittest.TestCase):
    def assert_invalid(self, row, index, program=PROGRAM):
        for function in (run, asked_paths):
            with self.assertRaises(InvalidRow) as caught:
                function(program, row)
            self.assertEqual(caught.exception.index, index)
            self.assertIs(type(caught.exception.index), int)

    def test_no_rows(self):
        for row in NO_ROWS:
            self.assert_invalid(row, -1)

    def test_no_statuses(self):
        for entry in NO_STATUSES:
            self.assert_invalid([entry], 0)
            self.assert_invalid((entry,), 0)
            self.assert_invalid([0, 1, 2, entry], 3)
            self.assert_invalid((0, entry, 1, entry), 1)
            self.assert_invalid([entry, 0, -5], 0)

    def test_entries_that_are_not_needed_are_checked(self):
        self.assert_invalid([0, -1], 1, main(status(0)))
        self.assert_invalid([0] * 9999 + [True], 9999, main(status(0)))

    def test_lengths(self):
        for kind in (list, tuple):
            self.assert_invalid(kind([0]) * 10001, -1)
            self.assert_invalid(kind([-1]) * 10001, -1)
            self.assert_invalid(kind([0]) * 9999 + kind([None]), 9999)
            names, outcome = run(PROGRAM, kind([1, 0]) * 5000)
            self.assertEqual((len(names), outcome), (10000, ("asks", "a")))

    def test_rows_that_are_accepted(self):
        huge = 10 ** 5000
        self.assertEqual(run(main(A), [huge]), (["a"], ("ended", huge, 1)))
        self.assertEqual(run(main(A), [4] * 10000), (["a"], ("ended", 4, 1)))
        self.assertEqual(asked_paths(main(A), [4] * 10000), [(-1,)])
        self.assertEqual(run(main(status(3)), [huge] * 10000), ([], ("ended", 3, 0)))


class Programs(unittest.TestCase):
    def assert_invalid(self, program, row, path):
        for function in (run, asked_paths):
            with self.assertRaises(InvalidProgram) as caught:
                function(program, row)
            self.assertEqual(caught.exception.path, path)
            with self.assertRaises(InvalidProgram) as caught:
                function(row=row, program=program)
            self.assertEqual(caught.exception.path, path)

    def test_programs_come_first(self):
        for program, path in ((None, ()), (A, ()), (((), None), (-1,)), (((), ("not", A, A)), (-1,)),
                              (((), ("not", 3)), (-1, 0)), (((("f", A), 3), A), (1,)),
                              (((("f", ("run", "F")),), A), (0,)), ([], ()), ({}, ())):
            for row in ([], [0], None, [-1], [0] * 10001, {}, [[]]):
                self.assert_invalid(program, row, path)


if __name__ == "__main__":
    unittest.main()
