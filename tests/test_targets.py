"""[3.1] targets."""

import unittest

from shellways.errors import InvalidProgram
from shellways.loops import targets
from shellways.texts import read_program
from tests.samples import Sampler
from tests.trees import main, nested
from tests.wrong import NO_PROGRAMS, assert_error


def plain_targets(program):
    """The targets, found on the way down through the trees."""
    found = []

    def walk(tree, path, loops, shell):
        word = tree[0]
        if word in ("break", "next"):
            found.append((path, loops[-tree[1]]))
        elif word == "return":
            found.append((path, path[:1]))
        elif word == "exit":
            found.append((path, shell))
        parts = tree[1] if word in ("seq", "pipe") else [part for part in tree[1:] if isinstance(part, tuple)]
        inside = loops + [path] if word in ("while", "until", "times") else loops
        if word in ("sub", "pipe", "trap"):
            inside = []
        for place, part in enumerate(parts):
            below = path + (place,)
            walk(part, below, inside, below if word in ("sub", "pipe") else shell)

    for number, (_, body) in enumerate(program[0]):
        walk(body, (number,), [], None)
    walk(program[1], (-1,), [], (-1,))
    return found


class Targets(unittest.TestCase):
    def assert_targets(self, text, *expected):
        self.assertEqual(targets(read_program(text)), list(expected))

    def test_none(self):
        self.assert_targets("a ; while b do c end ; ( d ) ; d | a")

    def test_loops(self):
        for head in ("while", "until"):
            self.assert_targets(head + " a do break 1 end", ((-1, 1), (-1,)))
            self.assert_targets(head + " next 1 do a end", ((-1, 0), (-1,)))
            self.assert_targets("b ; " + head + " a do c && next 1 end", ((-1, 1, 1, 1), (-1, 1)))
        self.assert_targets("times 3 do a || break 1 end", ((-1, 0, 1), (-1,)))

    def test_loops_within_loops(self):
        text = "times 2 do while a do until b do {} {} end end end"
        for word in ("break", "next"):
            for count, target in ((1, (-1, 0, 1)), (2, (-1, 0)), (3, (-1,))):
                self.assert_targets(text.format(word, count), ((-1, 0, 1, 1), target))
        # The condition of a loop belongs to the loop.
        self.assert_targets("times 2 do while break 2 do next 1 end end", ((-1, 0, 0), (-1,)), ((-1, 0, 1), (-1, 0)))

    def test_loops_beside_one_another(self):
        self.assert_targets("while a do b end ; while a do break 1 end ; times 1 do break 1 end",
                            ((-1, 1, 1), (-1, 1)), ((-1, 2, 0), (-1, 2)))

    def test_returns(self):
        self.assert_targets("def f { return } def g { a ; while b do if c then return 3 end end } call g",
                            ((0,), (0,)), ((1, 1, 1, 1), (1,)))

    def test_exits(self):
        self.assert_targets("exit", ((-1,), (-1,)))
        self.assert_targets("a && { b ; exit 3 }", ((-1, 1, 1), (-1,)))
        self.assert_targets("def f { exit 2 ; ( exit ) } call f", ((0, 0), None), ((0, 1, 0), (0, 1, 0)))
        self.assert_targets("( a ; exit ) ; exit", ((-1, 0, 0, 1), (-1, 0, 0)), ((-1, 1), (-1,)))
        self.assert_targets("a | { exit ; ( exit 1 ) } | exit 2", ((-1, 1, 0), (-1, 1)),
                            ((-1, 1, 1, 0), (-1, 1, 1, 0)), ((-1, 2), (-1, 2)))
        self.assert_targets("( ( exit ) ; exit )", ((-1, 0, 0, 0), (-1, 0, 0, 0)), ((-1, 0, 1), (-1, 0)))

    def test_exits_in_traps(self):
        self.assert_targets("trap end { exit }", ((-1, 0), (-1,)))
        self.assert_targets("( trap fail { exit } )", ((-1, 0, 0), (-1, 0)))
        self.assert_targets("trap end { ( exit ) }", ((-1, 0, 0), (-1, 0, 0)))
        self.assert_targets("def f { trap fail { a ; exit 3 } } a", ((0, 0, 1), None))

    def test_loops_in_traps_and_shells(self):
        self.assert_targets("trap end { while a do break 1 end } ; ( until a do next 1 end ) | times 2 do break 1 end",
                            ((-1, 0, 0, 1), (-1, 0, 0)), ((-1, 1, 0, 0, 1), (-1, 1, 0, 0)), ((-1, 1, 1, 0), (-1, 1, 1)))

    def test_reading_order(self):
        self.assert_targets("def f { exit } def g { return ; exit } exit ; while exit do break 1 end ; exit",
                            ((0,), None), ((1, 0), (1,)), ((1, 1), None), ((-1, 0), (-1,)), ((-1, 1, 0), (-1,)),
                            ((-1, 1, 1), (-1, 1)), ((-1, 2), (-1,)))

    def test_deep(self):
        program = main(nested(lambda tree: ("times", 1, tree), 59, ("break", 59)))
        self.assertEqual(targets(program), [((-1,) + (0,) * 59, (-1,))])

    def test_samples(self):
        for seed in range(500):
            program = Sampler(seed).program((6, 12, 25, 50)[seed % 4])
            try:
                self.assertEqual(targets(program), plain_targets(program))
            except InvalidProgram:
                pass

    def test_errors_and_new_lists(self):
        for value, path in NO_PROGRAMS:
            assert_error(self, InvalidProgram, path, targets, value)
        program = main(("exit", None))
        targets(program=program).clear()
        self.assertEqual(targets(program), [((-1,), (-1,))])


if __name__ == "__main__":
    unittest.main()
