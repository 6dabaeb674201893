"""[6.1] trap_paths, [6.2] first_rows, [6.3] spelled_fail, [6.4] spelled_end, [6.5] facts."""

import unittest

from shellways.alike import alike
from shellways.errors import InvalidProgram, Mismatch, TooLarge
from shellways.machines import machine, situations
from shellways.programs import check_program, command_names, program_size
from shellways.shells import run
from shellways.texts import read_program
from shellways.traps import first_rows, spelled_end, spelled_fail, trap_paths
from tests.brute import are_same
from tests.reference import first_events
from tests.samples import Sampler
from tests.trees import A, B, FAIL_ON, Z, main, nested, seq, status
from tests.wrong import NO_PROGRAMS, assert_error


def parts_of(tree):
    return tree[1] if tree[0] in ("seq", "pipe") else [part for part in tree[1:] if isinstance(part, tuple)]


def of_shell(tree):
    """The tree and those inside it, new shells aside."""
    found = [tree]
    if tree[0] not in ("sub", "pipe"):
        for part in parts_of(tree):
            found += of_shell(part)
    return found


def within(tree):
    return [tree] + [inner for part in parts_of(tree) for inner in within(part)]


def is_described(program, kind):
    """Whether the fail or end trap of a program can be spelled out."""
    functions, tree = program
    first = tree[1][0] if tree[0] == "seq" else ("none",)
    if first[:2] != ("trap", kind) or first[2] is None:
        return False
    bodies = [body for _, body in functions]
    if sum(inner[:2] == ("trap", kind) for root in bodies + [tree] for inner in of_shell(root)) > 1:
        return False
    if kind == "fail":
        return all(("option", "fail", True) not in within(root) for root in bodies + [tree]) \
            and all(("exit", None) not in within(body) for body in bodies)
    return all(inner[0] not in ("keep", "give", "zero", "put", "pipe", "call") for inner in within(first[2])) \
        and all(inner[0] != "trap" for inner in of_shell(first[2]))


def may_be_too_large(program):
    body = program[1][1][0][2]
    paths = max(len(path) for path in all_paths(program))
    trees, unfolded = program_size(program)
    within_body = program_size((program[0], body))
    own = len(within(body))
    return (trees * own > 200 or unfolded * within_body[1] > 200 or len(command_names(program)[1]) == 40 or paths > 25)


def all_paths(program):
    def walk(tree, path):
        yield path
        for place, part in enumerate(parts_of(tree)):
            yield from walk(part, path + (place,))
    for number, (_, body) in enumerate(program[0]):
        yield from walk(body, (number,))
    yield from walk(program[1], (-1,))


class TrapPaths(unittest.TestCase):
    def test_example(self):
        self.assertEqual(trap_paths(((), ('seq', (('trap', 'fail', ('run', 'z')), ('sub', ('trap', 'end', ('run', 'y'))), ('trap', 'fail', None))))),
                         [((-1, 0), 'fail'), ((-1, 1, 0), 'end')])

    def test_everywhere(self):
        program = read_program("def f { trap end { a } } def g { b ; trap fail { trap end { c } } } "
                               "if trap fail { a } then ( trap end { b } ) else trap end off end | trap end { trap end off }")
        self.assertEqual(trap_paths(program), [((0,), "end"), ((1, 1), "fail"), ((1, 1, 0), "end"), ((-1, 0, 0), "fail"),
                                               ((-1, 0, 1, 0), "end"), ((-1, 1), "end")])
        self.assertEqual(trap_paths(main(A)), [])

    def test_errors_and_new_lists(self):
        for value, path in NO_PROGRAMS:
            assert_error(self, InvalidProgram, path, trap_paths, value)
        program = main(("trap", "end", A))
        trap_paths(program=program).clear()
        self.assertEqual(trap_paths(program), [((-1,), "end")])


class FirstRows(unittest.TestCase):
    def assert_rows(self, text, *rows):
        self.assertEqual(first_rows(read_program(text)), list(rows), text)

    def test_examples(self):
        self.assert_rows("trap fail { z } ; a ; b", [1])
        self.assert_rows("trap end { z } ; a ; b", [0, 0])
        self.assertEqual(first_rows(((), ('if', ('trap', 'fail', ('run', 'z')), ('not', ('run', 'a')), None))), [None])

    def test_no_status(self):
        self.assert_rows("trap end { z } ; status 3", [])
        self.assert_rows("trap fail { z } ; status 3", [])
        self.assert_rows("trap fail { z } ; trap end { y } ; exit 3", None, [])

    def test_places(self):
        self.assert_rows("def f { trap fail { z } ; a } call f ; b", [1])
        self.assert_rows("def f { trap fail { z } ; ! a } call f ; b", [0])
        self.assert_rows("def f { trap end { z } ; a } call f ; b && exit", [0, 0])
        self.assert_rows("a && ( trap end { z } ; b || exit ) ; c", [0, 0])
        self.assert_rows("trap end { trap fail { y } ; z ; ( trap fail { x } ; c ) } ; a", [0], None, None)
        self.assert_rows("if a && trap fail { z } then b end", [0, 1])
        self.assert_rows("trap fail { trap end { y } ; z } ; a ; b", [1], [0, 1, 0])
        self.assert_rows("trap fail { z } ; trap fail off ; a", None)
        self.assert_rows("exit ; trap end { z }", None)
        self.assert_rows("trap end { z } | trap end { y } ; a", [], [0])

    def test_least_of_several(self):
        # Two failures, or one failure at the second command: [1, 1] comes behind [0, 1].
        self.assert_rows("trap fail { z } ; if a then b else c ; d end", [0, 1])
        self.assert_rows("if a then b ; trap end { z } else trap end { y } end ; c", [0, 0, 0], [1, 0])

    def test_silent(self):
        self.assert_rows("trap end { z } ; while status 0 do status 0 end", None)
        # The body would be the 1001st tree.
        self.assertEqual(first_rows(main(("trap", "end", Z), *[status(0)] * 998)), [None])
        self.assertEqual(first_rows(main(("trap", "end", Z), *[status(0)] * 997)), [[]])

    def test_behind_many_statuses(self):
        self.assert_rows("times 90 do a end ; trap end { z } ; b", [0] * 91)
        self.assert_rows("times 45 do a ; b end ; trap fail { z } ; c", [0] * 90 + [1])
        self.assert_rows("trap fail { z } ; times 95 do ! a end ; b", [0] * 95 + [1])

    def test_samples(self):
        for seed in range(400):
            program = Sampler(seed).program((6, 12, 25, 40)[seed % 4])
            try:
                traps = trap_paths(program)
            except InvalidProgram:
                continue
            if not traps or situations(program) > 60:
                continue
            firsts = first_events(program, 5)
            for (path, _), row in zip(traps, first_rows(program)):
                found = firsts.get((path + (0,), "begun"))
                if row is not None and len(row) > 5:
                    self.assertIsNone(found)
                else:
                    self.assertEqual(row, found, (program, path))

    def test_errors_and_new_lists(self):
        for value, path in NO_PROGRAMS:
            assert_error(self, InvalidProgram, path, first_rows, value)
        assert_error(self, TooLarge, 1000, first_rows, main(("times", 999, A)))
        self.assertEqual(first_rows(main(("times", 998, A))), [])
        program = main(("trap", "end", Z), A)
        first_rows(program=program)[0].append(1)
        self.assertEqual(first_rows(program), [[0]])


class Spelled(unittest.TestCase):
    def assert_spelled(self, function, kind, program, length=6):
        result = function(program)
        check_program(result)
        roots = [body for _, body in result[0]] + [result[1]]
        self.assertFalse([inner for root in roots for inner in of_shell(root) if inner[:2] == ("trap", kind)])
        self.assertEqual(result[0], program[0])
        self.assertTrue(are_same(program, result, length), (program, result))
        return result

    def check_fail(self, text):
        program = read_program(text)
        result = self.assert_spelled(spelled_fail, "fail", program)
        if ("silent",) not in machine(program):
            self.assertTrue(alike(program, result), text)

    def check_end(self, text):
        program = read_program(text)
        result = self.assert_spelled(spelled_end, "end", program)
        if ("silent",) not in machine(program):
            self.assertTrue(alike(program, result), text)

    def test_fail(self):
        for text in ("a", "a ; b", "a && b || c", "! a ; b", "if a then b else c end", "while a do b end", "until a do b end",
                     "times 2 do a end", "( a ; b ) ; c", "a | b", "! ( a ) | b", "status 3", "keep x ; give x",
                     "a ; keep x ; b ; give x ; zero x", "call f ; a", "! call f", "a ; exit", "a && exit 3",
                     "while a do b ; break 1 end", "times 2 do until a do next 2 ; b end end", "( exit 4 )", "call g ; b",
                     "trap end { y ; exit } ; a", "trap end { y && call f } ; a ; exit", "option pipes on ; a | b",
                     "option fail off ; a", "( trap fail { y } ; a ) ; b", "! ( trap fail { y } ; a )",
                     "if ( trap fail { y } ; a ) then b end", "call h", "a ; trap end off ; b", "put x 3 ; give x"):
            for body in ("z", "z ; y", "! z", "keep w ; exit", "exit", "exit 9", "z || exit", "z && exit 2", "( exit )",
                         "( z ; exit ) ; y", "while z do y ; break 1 end", "trap end { exit }", "call f", "keep x ; z",
                         "trap end { ( exit ) ; w } ; z && exit", "z | ( exit ) | exit", "( z ; exit ) && y",
                         "{ z ; exit } | { y ; exit } && w", "trap end { exit } ; exit 3", "trap end { z ; exit } ; y && exit 2",
                         "if ( z ; exit ) then exit end"):
                self.check_fail("def f { a ; b } def g { return 5 } def h { ( trap fail { y } ; a ) } trap fail { "
                          + body + " } ; " + text)

    def test_end(self):
        for text in ("a", "a ; b", "a && exit ; b", "exit", "a ; exit 4", "( a ; exit 3 ) ; b", "option fail on ; a ; b",
                     "call f ; b", "trap fail { y } ; a ; b", "trap fail { y || exit } ; option fail on ; a ; b",
                     "while a do b && exit end", "option fail on ; call f ; b", "a ; keep x ; b ; give x", "option pipes on ; a | b",
                     "( trap end { y } ; a ) ; b", "call g", "until a do next 1 ; b end", "trap fail { exit } ; a"):
            for body in ("z", "z ; y", "! z", "exit", "exit 9", "z || exit", "z && exit 2", "( exit )", "( z ; exit ) ; y",
                         "while z do y ; break 1 end", "( trap end { exit } ; z )", "option fail on ; z ; y",
                         "if z then exit else status 3 end", "( option fail on ; z ; y ) && exit", "( z ; exit ) && y",
                         "( trap end { z ; exit } ; y && exit 2 ) && w"):
                self.check_end("def f { a && b ; exit } def g { ( trap end { y } ; a ) } trap end { " + body + " } ; " + text)

    def test_example(self):
        program = ((), ('seq', (('trap', 'end', ('run', 'z')), ('run', 'a'))))
        self.assertEqual(run(spelled_end(program), [7, 5]), (['a', 'z'], ('ended', 7, 2)))

    def test_samples(self):
        counts = {}
        for seed in range(1500):
            sampler = Sampler(seed)
            functions, tree = sampler.program((6, 12, 25)[seed % 3])
            for kind, function in (("fail", spelled_fail), ("end", spelled_end)):
                body = Sampler(seed + 1).tree((1, 3, 6)[seed % 3], 0, False, [name for name, _ in functions])
                program = (functions, ("seq", (("trap", kind, body), *(tree[1] if tree[0] == "seq" else (tree,)))))
                try:
                    check_program(program)
                except InvalidProgram:
                    continue
                if not is_described(program, kind):
                    assert_error(self, Mismatch, "program", function, program)
                    continue
                try:
                    self.assert_spelled(function, kind, program, 5)
                    counts[kind] = counts.get(kind, 0) + 1
                except TooLarge as error:
                    self.assertEqual(error.limit, 3000)
                    self.assertTrue(may_be_too_large(program))
        self.assertGreater(min(counts.values()), 150)

    def test_all_short_names_of_variables(self):
        letters = "abcdefghijklmnopqrstuvwxyz"
        for kind, function in (("fail", spelled_fail), ("end", spelled_end)):
            sets = [("keep", letter) for letter in letters]
            program = main(("trap", kind, Z), A, *sets, B, ("give", "a"))
            self.assertEqual(len(command_names(program)[1]), 26)
            self.assert_spelled(function, kind, program)
            more = [("keep", "a" + letter) for letter in letters[:13]]
            self.assert_spelled(function, kind, main(("trap", kind, Z), A, *sets, *more, B))

    def test_names_that_commands_and_functions_have(self):
        self.check_fail("def a { b ; c } trap fail { a } ; call a ; b ; put c 1 ; give b")
        self.check_end("def a { b ; c } trap end { a ; b } ; call a ; b ; put c 1 ; give b")

    def test_mismatch(self):
        for text in ("a", "a ; trap fail { z }", "trap fail off ; a", "trap end { z } ; a", "trap fail { z } && a", "( trap fail { z } ; a )",
                     "trap fail { z }", "trap fail { z } ; trap fail { z }", "trap fail { z } ; a && trap fail off",
                     "trap fail { trap fail off } ; a", "trap fail { z } ; trap end { trap fail { y } } ; a",
                     "def f { trap fail off } trap fail { z } ; a", "trap fail { z } ; option fail on", "trap fail { option fail on } ; a",
                     "trap fail { z } ; ( option fail on )", "def f { a | option fail on } trap fail { z } ; a",
                     "def f { exit } trap fail { z } ; a", "def f { ( a ; exit ) } trap fail { z } ; a", "{ trap fail { z } ; a } ; b",
                     "def f { trap end { exit } } trap fail { z } ; a"):
            assert_error(self, Mismatch, "program", spelled_fail, read_program(text))
        for text in ("a", "a ; trap end { z }", "trap end off ; a", "trap fail { z } ; a", "( trap end { z } ; a )", "trap end { z }",
                     "trap end { z } ; trap end { z }", "trap end { z } ; trap fail { trap end off } ; a", "def f { trap end off } trap end { z } ; a",
                     "trap end { keep x } ; a", "trap end { z ; ( put x 1 ) } ; a", "trap end { give x } ; a", "trap end { zero x } ; a",
                     "trap end { a | b } ; a", "def f { a } trap end { call f } ; a", "trap end { trap fail { y } } ; a",
                     "trap end { trap fail off ; z } ; a", "trap end { ( trap end { keep x } ) } ; a", "trap end { trap end off } ; a"):
            assert_error(self, Mismatch, "program", spelled_end, read_program(text))

    def test_things_that_are_allowed(self):
        self.check_fail("def f { exit 3 ; option fail off } trap fail { option fail off ; z } ; ( trap fail { y } ; a ) ; call f ; b | trap fail off")
        self.check_end("def f { exit ; ( trap end off ) } trap end { ( trap end { y } ; trap fail { x } ; z ) ; option pipes on } ; call f ; a")

    def test_too_large(self):
        for kind, function in (("fail", spelled_fail), ("end", spelled_end)):
            # With 40 variables there is none left.
            names = ["v" + first + last for first in "abcde" for last in "abcdefgh"]
            program = main(("trap", kind, Z), A, *[("keep", name) for name in names])
            self.assertEqual(len(command_names(program)[1]), 40)
            try:
                function(program)
            except TooLarge as error:
                self.assertEqual(error.limit, 3000)
            program = main(("trap", kind, seq(*[Z] * 100)), *[A] * 200)
            try:
                self.assertTrue(are_same(program, function(program), 3))
            except TooLarge as error:
                self.assertEqual(error.limit, 3000)
        assert_error(self, TooLarge, 3000, spelled_fail, main(("trap", "fail", seq(*[Z] * 100)), *[A] * 200))

    def test_largest(self):
        """Programs just within the limits are never too large."""
        exits = ("or", Z, ("exit", None))
        for many, body in ((197, Z), (197, ("exit", None)), (96, ("not", Z)), (62, exits), (35, seq(Z, exits)), (16, seq(*[("exit", None)] * 9))):
            for kind, function in (("fail", spelled_fail), ("end", spelled_end)):
                own = len(within(body))
                program = main(("trap", kind, body), *[A] * min(many, 200 // own - own - 2))
                self.assertFalse(may_be_too_large(program))
                self.assert_spelled(function, kind, program, 3)
        deep = nested(lambda tree: ("and", ("status", 0), tree), 22, ("sub", A))
        for kind, function in (("fail", spelled_fail), ("end", spelled_end)):
            program = main(("trap", kind, ("sub", Z)), deep, A)
            self.assertEqual(max(len(path) for path in all_paths(program)), 25)
            self.assertFalse(may_be_too_large(program))
            self.assert_spelled(function, kind, program)
        program = main(("trap", "fail", Z), ("times", 190, A))
        self.assert_spelled(spelled_fail, "fail", program, 4)

    def test_errors(self):
        for value, path in NO_PROGRAMS:
            for function in (spelled_fail, spelled_end):
                assert_error(self, InvalidProgram, path, function, value)
        program = main(("trap", "fail", Z), FAIL_ON, *[A] * 2000)
        assert_error(self, Mismatch, "program", spelled_fail, program)
        self.assertEqual(spelled_fail(program=main(("trap", "fail", Z), A)), spelled_fail(main(("trap", "fail", Z), A)))
        self.assertEqual(spelled_end(program=main(("trap", "end", Z), A)), spelled_end(main(("trap", "end", Z), A)))


if __name__ == "__main__":
    unittest.main()
