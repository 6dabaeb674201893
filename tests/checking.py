"""What tests of run have in common."""

import unittest

from shellways.shells import asked_paths, run


class RunTest(unittest.TestCase):
    def check(self, program, row, names, outcome):
        result = run(program, row)
        self.assertEqual(result, (list(names), outcome), repr(program)[:2000])
        self.assertEqual([type(part) for part in result], [list, tuple])
        self.assertEqual(len(asked_paths(program, row)), len(names))

    def asks(self, program, row, names, name):
        """All statuses of the row are used, and the program asks for a command."""
        self.assertEqual(len(row), len(names))
        self.check(program, row, names, ("asks", name))

    def ends(self, program, row, names, status):
        """The program ends; more statuses than it needs may stand in the row."""
        self.check(program, row, names, ("ended", status, len(names)))

    def silent(self, program, row, names):
        self.check(program, row, names, ("silent", len(names)))
