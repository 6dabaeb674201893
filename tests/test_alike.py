"""[9.1] alike, [9.2] parting_row and shows_parting, [9.4] fewest_failures, [9.5] and [9.6]."""

import itertools
import unittest

from shellways.alike import (
    alike, alike_if_sure, alike_in, fewest_failures, filled, least_sure, parting_row, shows_parting,
)
from shellways.errors import InvalidName, InvalidProgram, InvalidRow, TooLarge
from shellways.programs import check_program, command_names
from shellways.shells import run
from shellways.texts import read_program
from tests.brute import parting_rows, told
from tests.samples import Sampler
from tests.trees import A, B, C, RESERVED, main, seq, status
from tests.wrong import NO_PROGRAMS, NO_ROWS, assert_error

ALIKE = (
    ("a ; exit", "a"), ("a", "( a )"), ("! ! ! a", "! a"), ("a", "{ a }"),
    ("def f { a } call f", "a"), ("a && b || c", "{ a && b } || c"), ("option fail on ; a ; b", "a && b"),
    ("if a then b else status 0 end", "if a then b end"), ("times 2 do a end", "a ; a"),
    ("while a do b end", "while a do ( b ) end"), ("a ; keep x ; b ; give x", "a ; keep y ; b ; give y"),
    ("a || b", "if a then status 0 else b end"),
    ("a || { keep x ; b || { keep y ; c ; give y } }", "a || { b || { keep y ; c ; give y } }"),
    ("a || { keep x ; b || { keep y ; c ; give y } }", "a || { keep y ; b || { keep x ; c ; give x } }"),
    ("status 3 ; exit", "exit 3"), ("a ; status 3", "a ; exit 3"), ("trap end { b } ; a", "a ; keep x ; ! b ; give x"),
    ("while status 0 do status 0 end", "until status 1 do put x 2 end"),
    ("a ; keep x ; b ; keep x ; give x", "a ; b"), ("a | b", "a ; b"), ("def f { return 3 ; a } call f", "status 3"),
)

# Programs that are not alike, the length of the shortest row that parts them, the fewest failures.
PARTED = (
    ("a", "b", 0, 0), ("status 0", "status 1", 0, 0), ("a", "status 0", 0, 0), ("a", "! a", 1, 0), ("a", "! ! a", 1, 1),
    ("a && b", "a ; b", 1, 1), ("a || b", "a || b || c", 2, 2), ("a ; b", "a ; b ; c", 2, 0),
    ("option fail on ; a && b ; c", "option fail on ; ( a && b ) ; c", 1, 1),
    ("a ; keep x ; b ; give x", "a ; b", 2, 1), ("a ; keep x ; b ; give x", "a ; keep x ; b ; zero x", 2, 1),
    ("while status 0 do status 0 end", "status 0", 0, 0), ("times 3 do a end", "times 4 do a end", 3, 0),
    ("a ; status 1", "a ; status 2", 1, 0), ("if a then b else status 2 end", "if a then b else exit 3 end", 1, 1),
    ("a ; keep x ; b ; keep y ; give x", "a ; keep x ; b ; keep y ; give y", 2, 1),
    ("a || b || c || d", "a || b || c || ! d", 4, 3), ("if a then b else c end", "if a then b else d end", 1, 1),
    ("if a then status 0 else if a then b end end", "if a then status 0 else if a then c end end", 2, 1),
)


def pairs_of_samples(seeds, sizes):
    """Pairs of programs: each one with another one, and with one that differs in a tree."""
    for seed in seeds:
        sampler = Sampler(seed)
        program = sampler.program(sizes[seed % len(sizes)])
        other = Sampler(seed + 7).program(sizes[seed % len(sizes)]) if seed % 5 == 0 else changed(sampler, program)
        try:
            check_program(program)
            check_program(other)
        except InvalidProgram:
            continue
        yield program, other


def changed(sampler, program):
    """The program with another leaf, or another tree around a part, somewhere in main."""
    def walk(tree):
        chance = sampler.chance.random()
        if chance < 0.1:
            return sampler.chance.choice((("sub", tree), ("not", ("not", tree)), seq(tree, ("exit", None)), ("and", tree, A),
                                          seq(tree, ("keep", "x")), seq(("status", 0), tree), ("times", 1, tree),
                                          ("if", tree, ("status", 0), ("exit", 1)), ("or", tree, ("status", 1))))
        if tree[0] in ("seq", "pipe"):
            return (tree[0], tuple(walk(part) for part in tree[1]))
        if tree[0] == "run" and chance < 0.15:
            return ("run", sampler.chance.choice("abc"))
        return tuple(walk(part) if isinstance(part, tuple) else part for part in tree)
    return program[0], walk(program[1])


class Alike(unittest.TestCase):
    def test_alike(self):
        for one, other in ALIKE:
            one, other = read_program(one), read_program(other)
            for pair in ((one, other), (other, one), (one, one)):
                self.assertIs(alike(*pair), True, pair)
                self.assertIsNone(parting_row(*pair))
                self.assertIsNone(fewest_failures(*pair))

    def test_parted(self):
        for one, other, length, failures in PARTED:
            for pair in ((one, other), (other, one)):
                pair = [read_program(text) for text in pair]
                self.assertIs(alike(*pair), False, pair)
                row = parting_row(*pair)
                self.assertEqual(len(row), length, pair)
                self.assertIs(shows_parting(*pair, row), True)
                self.assertEqual(fewest_failures(*pair), failures, pair)

    def test_failures_are_no_numbers_of_a_program(self):
        self.assertIs(alike(main(A), main(("if", A, status(0), status(1)))), False)
        self.assertIs(alike(main(seq(A, ("keep", "x"), B, ("give", "x"))), main(seq(A, B))), False)
        for number in (1, 2, 255):
            row = parting_row(main(A), main(("or", A, status(number))))
            self.assertEqual(len(row), 1)
            self.assertTrue(shows_parting(main(A), main(("or", A, status(number))), row))

    def test_failures_of_parting_rows_at_each_place(self):
        """They equal no number of a program, wherever they stand."""
        for place in range(0, 260, 20):
            for number in (1, 235, 254, 255):
                text = "a ; " * place + "b"
                program, other = read_program(text), read_program(text + f" || status {number}")
                row = parting_row(program, other)
                self.assertEqual((len(row), row[:-1]), (place + 1, [0] * place))
                self.assertTrue(shows_parting(program, other, row))

    def test_samples(self):
        counts = {True: 0, False: 0}
        for program, other in pairs_of_samples(range(500), (6, 12, 25, 40)):
            found = next(parting_rows(program, other, 6), None)
            row = parting_row(program, other)
            self.assertIs(alike(program, other), row is None)
            if found is not None:
                self.assertEqual(len(row), len(found), (program, other))
            elif row is not None:
                self.assertGreater(len(row), 6)
            if row is not None:
                self.assertNotEqual(run(program, row), run(other, row))
                self.assertTrue(shows_parting(program, other, row))
            counts[row is None] += 1
        self.assertGreater(min(counts.values()), 100)

    def test_fewest_failures_in_samples(self):
        for program, other in pairs_of_samples(range(5000, 5250), (6, 12, 25)):
            fewest = fewest_failures(program, other)
            found = [sum(row) for row in parting_rows(program, other, 6)]
            if fewest is None:
                self.assertEqual(found, [])
                self.assertTrue(alike(program, other))
            elif found:
                self.assertLessEqual(fewest, min(found))
                if fewest < min(found):
                    self.assertGreater(len(parting_row(program, other)), 0)

    def test_fewest_failures_go_ahead_of_short_rows(self):
        # [1] parts the programs, and so do six successes.
        one = read_program("if a then times 5 do a end ; b else b end")
        other = read_program("if a then times 5 do a end ; c else c end")
        self.assertEqual((len(parting_row(one, other)), fewest_failures(one, other)), (1, 0))
        one = read_program("until a do a || b ; a || b || c end")
        other = read_program("until a do a || b ; a || b || d end")
        self.assertEqual(fewest_failures(one, other), 3)

    def test_limit_of_pairs(self):
        # A pair for each run, and two for the ends.
        for many, right in ((999, True), (1000, False)):
            runs = seq(("times", 999, A), ("times", many, A))
            program, other = main(runs), main(runs, ("exit", None))
            for function, result in ((alike, True), (parting_row, None), (fewest_failures, None), (least_sure, ())):
                if right:
                    self.assertEqual(function(program, other), result)
                else:
                    assert_error(self, TooLarge, 2000, function, program, other)
            if right:
                self.assertIs(alike_if_sure(program, other, []), True)
                self.assertIs(alike_in(program, "x", None, None), True)
                self.assertIs(alike_in(program, "a", B, B), True)
            else:
                assert_error(self, TooLarge, 2000, alike_if_sure, program, other, [])
                assert_error(self, TooLarge, 2000, alike_in, program, "x", 3, None)
                assert_error(self, TooLarge, 2000, alike_in, program, "a", B, B)

    def test_more_than_thousand_situations_each(self):
        runs = seq(("times", 800, A), ("times", 700, A))
        self.assertIs(alike(main(runs), main(runs, ("exit", None))), True)
        self.assertEqual(parting_row(main(runs), main(seq(("times", 800, A), ("times", 699, A), B))), [0] * 1499)

    def test_what_comes_behind_a_parting_row_is_not_followed(self):
        one = read_program("if a then b else times 990 do a end ; times 990 do a end ; times 990 do a end end")
        other = read_program("if a then c else times 990 do a end ; times 990 do a end ; times 990 do a end end")
        for pair in ((one, other), (other, one)):
            try:
                self.assertEqual(len(parting_row(*pair)), 1)
            except TooLarge as error:
                self.assertEqual(error.limit, 2000)
        self.assertFalse(alike(main(B, ("times", 1000, A), ("times", 990, A)), main(C, ("times", 1000, A), ("times", 990, A))))

    def test_errors(self):
        for value, path in NO_PROGRAMS:
            for function in (alike, parting_row, fewest_failures, least_sure):
                assert_error(self, InvalidProgram, path, function, value, main(A))
                assert_error(self, InvalidProgram, path, function, main(A), value)
                assert_error(self, InvalidProgram, path, function, value, None)
            for function in (shows_parting, alike_if_sure):
                assert_error(self, InvalidProgram, path, function, value, main(A), None)
                assert_error(self, InvalidProgram, path, function, main(A), value, None)
        for row, index in NO_ROWS:
            assert_error(self, InvalidRow, index, shows_parting, main(A), main(B), row)

    def test_keywords_and_new_lists(self):
        program, other = main(A), main(("not", A))
        self.assertIs(alike(program=program, other=other), False)
        parting_row(program=program, other=other).append(3)
        self.assertEqual(len(parting_row(program, other)), 1)
        self.assertIs(shows_parting(program=program, other=other, row=(0,)), True)
        self.assertIs(shows_parting(program=program, other=program, row=[0]), False)
        self.assertEqual(fewest_failures(program=program, other=other), 0)


class Sure(unittest.TestCase):
    def test_examples(self):
        one, other = main(seq(A, B)), main(("and", A, B))
        self.assertEqual(least_sure(one, other), ("a",))
        for names, result in (((), False), (["a"], True), (("b",), False), (["a", "b"], True), (["b", "a", "a"], True),
                              (["c", "a"], True), (["c"], False), ([], False)):
            self.assertIs(alike_if_sure(one, other, names), result, names)
            self.assertIs(alike_if_sure(other, one, tuple(names)), result, names)

    def test_least(self):
        for one, other, names in (("a", "a", ()), ("a", "b", None), ("a", "! a", None), ("a ; b ; c", "a && b && c", ("a", "b")),
                                  ("a || c", "a || b", ("a",)), ("a && { b || c }", "a && { b || d }", ("b",)),
                                  ("if a then status 0 else if b then status 0 else c end end",
                                   "if a then status 0 else if b then status 0 else d end end", ("a",)),
                                  ("b || a || c", "b || a || d", ("a",)), ("status 3", "status 3", ())):
            self.assertEqual(least_sure(read_program(one), read_program(other)), names, (one, other))

    def test_number_of_commands(self):
        names = "abcdefgh"
        program = main(*[("run", name) for name in names])
        chain = read_program(" && ".join(names))
        self.assertEqual(least_sure(program, chain), tuple(names[:7]))
        assert_error(self, TooLarge, 8, least_sure, program, main(("run", "i")))
        assert_error(self, TooLarge, 8, least_sure, (((("f"), ("run", "i")),), program[1]), program)
        assert_error(self, TooLarge, 8, least_sure, main(*[("run", "v" + name) for name in "abcdefghi"]), main(A))
        assert_error(self, TooLarge, 8, least_sure, main(program[1], ("times", 999, ("run", "i")), ("times", 999, A)), main(A))

    def test_samples(self):
        found = {}
        for program, other in pairs_of_samples(range(2000, 2200), (6, 12, 25)):
            names = sorted(set(command_names(program)[0] + command_names(other)[0]))
            best = None
            for many in range(len(names) + 1):
                for sure in itertools.combinations(names, many):
                    rows = [row for row in parting_rows_if_sure(program, other, sure, 5)]
                    result = alike_if_sure(program, other, list(sure))
                    if rows:
                        self.assertFalse(result)
                    if result and best is None:
                        best = sure
            self.assertEqual(least_sure(program, other), best, (program, other))
            found[best and len(best)] = found.get(best and len(best), 0) + 1
        self.assertGreater(found[1], 2)

    def test_names(self):
        for value in (None, "a", 3, {"a": 1}, {"a"}, b"a", True, object(), range(1)):
            with self.assertRaises(InvalidName) as caught:
                alike_if_sure(main(A), main(A), value)
            self.assertIs(caught.exception.name, value)
        for names, name in ((["a", "B"], "B"), ((None,), None), ([["a"]], ["a"]), (["a", "if", "B"], "if"), ([3], 3),
                            (["a" * 13], "a" * 13), ([""], ""), ([b"a"], b"a"), ([{}], {})):
            assert_error(self, InvalidName, name, alike_if_sure, main(A), main(B), names)
        for word in RESERVED:
            assert_error(self, InvalidName, word, alike_if_sure, main(A), main(A), ["a", word])
        large = main(("times", 1000, A), ("times", 999, A), A)
        assert_error(self, InvalidName, 3, alike_if_sure, large, large, [3])
        self.assertIs(alike_if_sure(program=main(A), other=main(B), names=["a"]), False)

    def test_limit_with_sure_commands(self):
        """Only the rows that are looked at count."""
        body = seq(A, ("keep", "x"), B, ("keep", "y"), A, ("keep", "z"))
        program = main(("times", 60, body), ("exit", None))
        assert_error(self, TooLarge, 2000, alike, main(("times", 250, body)), main(("times", 250, body), ("exit", None)))
        self.assertIs(alike_if_sure(main(("times", 60, body)), program, ["a", "b"]), True)
        wide = main(("times", 250, body))
        self.assertIs(alike_if_sure(wide, main(("times", 250, body), ("exit", None)), ("a", "b")), True)


def parting_rows_if_sure(program, other, sure, length):
    rows = [[]]
    for row in rows:
        result = run(program, told(row))
        if result != run(other, told(row)):
            yield row
        elif result[1][0] == "asks" and len(row) < length:
            rows.append(row + [0])
            if result[1][1] not in sure:
                rows.append(row + [1])


class Filled(unittest.TestCase):
    def test_examples(self):
        self.assertEqual(filled(((), ('not', ('run', 'x'))), 'x', ('sub', ('run', 'a'))), ((), ('not', ('sub', ('run', 'a')))))
        exiting = seq(A, ("exit", None))
        self.assertIs(alike_in(main(seq(("run", "x"), B)), "x", A, exiting), False)
        self.assertIs(alike(main(A), main(exiting)), True)
        twice = ("not", ("not", A))
        self.assertIs(alike_in(((), ("if", ("run", "x"), B, None)), "x", A, twice), True)
        self.assertIs(alike(main(A), main(twice)), False)

    def test_each_place(self):
        x = ("run", "x")
        program = ((("f", seq(x, ("while", x, x))),), ("seq", (pipe_of(x), ("if", x, x, x), ("trap", "end", x), ("call", "f"),
                                                              ("times", 2, ("or", x, ("not", x))), ("give", "x"), A)))
        for tree in (B, seq(B, C), ("sub", x), x, ("put", "x", 3), ("if", A, x, None)):
            expected = eval(repr(program).replace(repr(x), repr(tree)))
            self.assertEqual(filled(program, "x", tree), expected)

    def test_tree_is_not_filled_again(self):
        self.assertEqual(filled(main(("not", A)), "a", ("and", A, A)), main(("not", ("and", A, A))))

    def test_nowhere(self):
        for tree in (None, 3, [], ("run", "A"), object(), ("break", 1), A):
            self.assertEqual(filled(main(seq(A, ("give", "x"))), "x", tree), main(seq(A, ("give", "x"))))
            self.assertIs(alike_in(main(A), "x", tree, None), True)

    def test_results_that_are_no_programs(self):
        program = ((("f", ("and", A, ("run", "x"))),), ("while", ("run", "x"), B))
        for tree, path in ((None, (0, 1)), ([], (0, 1)), (("break", 1), (0, 1)), (("return", 1), (-1, 0)), (("call", "f"), (0, 1)),
                           (("not", ("exit", 256)), (0, 1, 0)), (("next", 1), (0, 1)), ("run", (0, 1)), ({}, (0, 1)),
                           (("seq", (A,)), (0, 1)), ((), (0, 1)), (object(), (0, 1)), (("not", [A]), (0, 1, 0))):
            assert_error(self, InvalidProgram, path, filled, program, "x", tree)
            assert_error(self, InvalidProgram, path, alike_in, program, "x", tree, None)
            assert_error(self, InvalidProgram, path, alike_in, program, "x", A, tree)
        self.assertEqual(filled(((), program[1]), "x", ("break", 1))[1], ("while", ("break", 1), B))
        assert_error(self, InvalidProgram, (), filled, main(*[("run", "x")] * 60), "x", seq(*[A] * 60))
        assert_error(self, InvalidProgram, (), filled, main(("times", 600, ("run", "x"))), "x", seq(*[A] * 5))
        deep = A
        for _ in range(3000):
            deep = ("not", deep)
        with self.assertRaises(InvalidProgram) as caught:
            filled(main(("not", ("run", "x"))), "x", deep)
        self.assertEqual(caught.exception.path, (-1,) + (0,) * 60)

    def test_order_of_errors(self):
        for value, path in NO_PROGRAMS:
            assert_error(self, InvalidProgram, path, filled, value, 3, None)
            assert_error(self, InvalidProgram, path, alike_in, value, 3, None, None)
        for name in (None, 3, "", "X", "if", "a" * 13, b"x", ["x"], ("x",), {}, True):
            assert_error(self, InvalidName, name, filled, main(("run", "x")), name, None)
            assert_error(self, InvalidName, name, alike_in, main(("run", "x")), name, None, None)
        program = main(("not", ("run", "x")))
        assert_error(self, InvalidProgram, (-1, 0), alike_in, program, "x", ("exit", -1), ("and", A, None))
        assert_error(self, InvalidProgram, (-1, 0, 1), alike_in, program, "x", A, ("and", A, None))

    def test_keywords(self):
        program = main(("not", A))
        self.assertEqual(filled(program=program, name="a", tree=B), main(("not", B)))
        self.assertIs(alike_in(program=program, name="a", tree=B, other=("sub", B)), True)

    def test_samples(self):
        for program, _ in pairs_of_samples(range(3000, 3200), (6, 12, 25)):
            for tree, other in ((A, ("sub", A)), (B, ("not", ("not", B))), (seq(C, ("exit", None)), C)):
                try:
                    pair = [filled(program, "a", part) for part in (tree, other)]
                except InvalidProgram:
                    continue
                self.assertEqual(alike_in(program, "a", tree, other), alike(*pair))


def pipe_of(tree):
    return ("pipe", (tree, ("sub", tree)))


if __name__ == "__main__":
    unittest.main()
