"""Which values are programs, and where the first fault of others lies."""

import unittest

from shellways.errors import InvalidProgram, InvalidRow, ShellError
from shellways.programs import check_program, command_names, program_size
from shellways.shells import asked_paths, run
from tests.trees import A, B, RESERVED, WORDS, main, nested, pipe, seq, status, trees

ODD = (None, True, False, -1, 0, 10 ** 5000, "", "run", b"run", [], ["run", "a"], {}, {"run": 1},
       {1, 2}, frozenset(), range(2), 1j, Ellipsis, int, len, object(), ShellError("x"),
       InvalidRow(3), (), (("run", "a"),), ([], "a"), ({}, "a"), (None,), (b"run", "a"), (0, 1))


def letters(count):
    """Different names."""
    alphabet = "abcdefghijklmnopqrstuvwxyz"
    return ["v" + alphabet[number // 26] + alphabet[number % 26] for number in range(count)]


class Bounds(unittest.TestCase):
    def assert_fault(self, program, path):
        with self.assertRaises(InvalidProgram) as caught:
            check_program(program)
        self.assertEqual(caught.exception.path, path)
        self.assertIs(type(caught.exception.path), tuple)

    def assert_tree_fault(self, tree):
        """The tree itself is at fault, in main, in a function, and inside another tree."""
        self.assert_fault(((), tree), (-1,))
        self.assert_fault(((("f", tree),), A), (0,))
        self.assert_fault(((), ("and", A, ("sub", tree))), (-1, 1, 0))


class Outlines(Bounds):
    def test_value_is_no_outline(self):
        for value in ODD:
            self.assert_fault(value, ())
        for value in (((),), ((), A, A), [(), A], ([], A), (None, A), ("", A), ({}, A), A,
                      (A, A, A), (((), A),), (range(0), A)):
            self.assert_fault(value, ())

    def test_functions(self):
        many = tuple((name, A) for name in letters(21))
        self.assertIsNone(check_program((many[:20], A)))
        self.assert_fault((many, A), ())
        self.assert_fault(((None,) * 21, None), ())
        self.assert_fault(((None,) * 20, None), (0,))

    def test_entries(self):
        for value in ODD:
            self.assert_fault(((("f", A), value), A), (1,))
        for value in (["f", A], ("f",), ("f", A, A), ("F", A), ("", A), (3, A), (None, A),
                      ("call", A), (["f"], A), (("f",), A), (b"f", A)):
            self.assert_fault(((value,), A), (0,))

    def test_names_of_functions(self):
        self.assert_fault(((("f", A), ("g", A), ("f", A)), A), (2,))
        self.assert_fault(((("f", A), ("f", None)), None), (1,))
        self.assertIsNone(check_program(((("f", A), ("g", A), ("ff", A)), A)))

    def test_entry_comes_before_its_body(self):
        self.assert_fault(((("f", None), None), A), (0,))
        self.assert_fault(((("f", ("sub", None)), None), A), (0, 0))
        self.assert_fault(((("f", A), None, ("g", None)), None), (1,))
        self.assert_fault(((("f", A), ("g", None)), None), (1,))
        self.assert_fault(((("f", A), ("g", A)), None), (-1,))


class Trees(Bounds):
    def test_no_tree(self):
        for value in ODD:
            self.assert_tree_fault(value)

    def test_unknown_words(self):
        for word in ("", "Run", "run ", "runs", "def", "fail", "end", "then", "do", "function"):
            self.assert_tree_fault((word,))
            self.assert_tree_fault((word, "a"))
            self.assert_tree_fault((word, A))

    def test_number_of_entries(self):
        for word in WORDS:
            self.assert_tree_fault((word,))
            self.assert_tree_fault((word, A, A, A, A))
        for tree in (("run", "a", "b"), ("status", 1, 2), ("put", "x"), ("option", "fail"),
                     ("trap", "end"), ("seq", A, B), ("and", A), ("and", A, B, A), ("not", A, B),
                     ("if", A, B), ("if", A, B, A, B), ("while", A), ("times", 3), ("break",),
                     ("call",), ("return",), ("exit",), ("sub", A, B), ("pipe", A, B)):
            self.assert_tree_fault(tree)

    def test_lists_are_no_tuples(self):
        for tree in (list(A), ["seq", (A, B)], ("seq", [A, B]), ("pipe", [A, B])):
            self.assert_tree_fault(tree)
        self.assert_fault(((), ("not", list(A))), (-1, 0))

    def test_parts_of_seq_and_pipe(self):
        for word in ("seq", "pipe"):
            for parts in ODD:
                if not (isinstance(parts, tuple) and len(parts) >= 2):
                    self.assert_tree_fault((word, parts))
            self.assert_tree_fault((word, (A,)))
            self.assertIsNone(check_program(((), (word, (A, B)))))

    def test_names(self):
        bad = [value for value in ODD if value != "run"]
        bad += ["A", "aB", "a1", "a_", "a b", " a", "a\n", "\u00e9", "\u00df", "\u0430", "a" * 13,
                "a" * 10 ** 6, "a\x00"]
        for name in bad + RESERVED:
            for tree in (("run", name), ("give", name), ("zero", name), ("keep", name),
                         ("put", name, 1), ("call", name)):
                self.assert_tree_fault(tree)
            self.assert_fault((((name, A),), A), (0,))

    def test_numbers(self):
        bad = [value for value in ODD if not (type(value) is int and value == 0)]
        for number in bad + [256, -1, -10 ** 30, "3", (3,), 1j]:
            self.assert_tree_fault(("status", number))
            self.assert_tree_fault(("put", "x", number))
            if number is not None:
                self.assert_tree_fault(("exit", number))
                self.assert_fault(((("f", ("return", number)),), A), (0,))
        for number in bad + [1001, -1, 10 ** 30, "3"]:
            self.assert_tree_fault(("times", number, A))

    def test_options_and_traps(self):
        for value in ODD:
            self.assert_tree_fault(("option", value, True))
            self.assert_tree_fault(("trap", value, A))
            if not isinstance(value, bool):
                self.assert_tree_fault(("option", "fail", value))
        self.assert_tree_fault(("option", "end", True))
        self.assert_tree_fault(("option", "pipe", True))
        self.assert_tree_fault(("trap", "pipes", A))
        self.assert_tree_fault(("trap", "exit", None))

    def test_none_is_a_part_only_where_it_may_be(self):
        self.assertIsNone(check_program(main(("if", A, B, None))))
        self.assertIsNone(check_program(main(("trap", "end", None))))
        self.assert_fault(main(("if", None, B, None)), (-1, 0))
        self.assert_fault(main(("if", A, None, None)), (-1, 1))
        self.assert_fault(main(("if", A, B, False)), (-1, 2))
        self.assert_fault(main(("trap", "end", False)), (-1, 0))
        self.assert_fault(main(("while", A, None)), (-1, 1))
        self.assert_fault(main(("times", 2, None)), (-1, 0))
        self.assert_fault(main(("sub", None)), (-1, 0))
        self.assert_fault(main(seq(A, None)), (-1, 1))

    def test_places_of_parts(self):
        for place, tree in ((1, ("and", A, 0)), (0, ("or", 0, B)), (0, ("not", 0)),
                            (2, ("if", A, B, 0)), (0, ("until", 0, B)), (1, ("until", A, 0)),
                            (0, ("times", 5, 0)), (2, seq(A, B, 0, 1)), (1, pipe(A, 0)),
                            (0, ("trap", "fail", 0))):
            self.assert_fault(main(tree), (-1, place))

    def test_reading_order(self):
        self.assert_fault(main(seq(("sub", 0), 1)), (-1, 0, 0))
        self.assert_fault(main(seq(A, ("and", ("not", A), ("run", "A")), ("seq", ()))), (-1, 1, 1))
        self.assert_fault(((("f", ("not", ("status", 256))),), ("run",)), (0, 0))
        self.assert_fault(main(("put", "X", 300)), (-1,))
        self.assert_fault(main(("if", ("break", 1), ("status", -1), 3)), (-1, 0))


class Places(Bounds):
    def test_break_and_next(self):
        for word in ("break", "next"):
            for loop in (lambda tree: ("while", A, tree), lambda tree: ("until", tree, A),
                         lambda tree: ("times", 2, tree), lambda tree: ("while", tree, A)):
                self.assertIsNone(check_program(main(loop((word, 1)))))
                self.assertIsNone(check_program(main(loop(loop(("not", (word, 2)))))))
                self.assertIsNone(check_program(main(loop(loop((word, 1))))))
            self.assert_tree_fault((word, 1))
            once = ("times", 2, (word, 2))
            self.assert_fault(main(once), (-1, 0))
            self.assert_fault(main(("times", 2, once), once), (-1, 1, 0))
            self.assert_fault(main(("times", 2, A), (word, 1)), (-1, 1))
            for count in (0, -1, True, False, None, "1", (1,), 3, 10 ** 5000):
                self.assert_fault(main(("while", A, ("while", A, (word, count)))), (-1, 1, 1))

    def test_loops_end_at_barriers(self):
        for word in ("break", "next"):
            leave = (word, 1)
            for tree, place in ((("sub", leave), (0,)), (pipe(A, leave), (1,)),
                                (("trap", "end", leave), (0,)), (("trap", "fail", leave), (0,))):
                self.assert_fault(main(("while", A, tree)), (-1, 1) + place)
                inside = ("while", A, nested(lambda part: ("times", 1, part), 2, tree))
                self.assert_fault(main(inside), (-1, 1, 0, 0) + place)
            self.assertIsNone(check_program(main(("sub", ("while", A, leave)))))
            self.assertIsNone(check_program(main(("trap", "end", ("while", leave, A)))))
            self.assert_fault(((("f", leave),), ("while", A, ("call", "f"))), (0,))

    def test_return(self):
        for tree in (("return", None), ("return", 0)):
            self.assert_fault(main(tree), (-1,))
            self.assert_fault(((("f", tree),), ("not", tree)), (-1, 0))
            for inside, place in ((("sub", tree), (0,)), (pipe(tree, A), (0,)),
                                  (("trap", "end", tree), (0,)),
                                  (("sub", ("while", tree, A)), (0, 0))):
                self.assert_fault(((("f", inside),), A), (0,) + place)
            inside = ("while", ("not", tree), ("if", A, tree, ("times", 3, tree)))
            self.assertIsNone(check_program(((("f", inside),), A)))

    def test_calls(self):
        call = ("call", "f")
        self.assert_fault(main(call), (-1,))
        self.assert_fault(((("f", call),), A), (0,))
        self.assert_fault(((("g", call), ("f", A)), A), (0,))
        self.assert_fault(((("g", A), ("f", ("trap", "end", call))), A), (1, 0))
        self.assertIsNone(check_program(((("f", A), ("g", call)), ("sub", call))))
        self.assert_fault(((("f", A),), ("call", "ff")), (-1,))
        self.assert_fault(((("a", ("keep", "f")),), seq(("run", "f"), call)), (-1, 1))


class Limits(Bounds):
    def test_trees(self):
        self.assertEqual(program_size(main(trees(3000))), (3000, 3000))
        self.assert_fault(main(trees(3001)), ())
        self.assertEqual(program_size(((("f", trees(2999)),), A)), (3000, 1))
        self.assert_fault(((("f", trees(3000)),), A), ())
        self.assert_fault(((("f", trees(3000)),), None), ())
        self.assert_fault(((("f", trees(1500)), ("g", trees(1500))), A), ())

    def test_faults_around_the_last_tree(self):
        good = (status(0),)
        bad = (status(-1),)
        self.assert_fault(main(("seq", good * 2998 + bad)), (-1, 2998))
        self.assert_fault(main(("seq", good * 2998 + bad + good)), (-1, 2998))
        self.assert_fault(main(("seq", good * 2999 + bad)), ())
        self.assert_fault(main(("seq", good * 2999 + (None,))), ())
        self.assert_fault(main(("seq", good * 5000 + bad)), ())
        self.assert_fault(main(("seq", good * 2997 + (("not", None),))), (-1, 2997, 0))
        self.assert_fault(main(("seq", good * 2998 + (("not", None),))), ())
        self.assert_fault(main(("seq", good * 2998 + (("seq", (None,)),))), (-1, 2998))

    def test_entries_behind_the_last_tree(self):
        large = ("f", trees(3000))
        self.assert_fault(((large, None), A), (1,))
        self.assert_fault(((large, ("f", A)), A), (1,))
        self.assert_fault(((large, ("F", A)), A), (1,))
        self.assert_fault(((large, ("g", A), None), A), ())
        self.assert_fault(((large, ("g", None)), None), ())

    def test_paths(self):
        for wrap in (lambda tree: ("not", tree), lambda tree: ("sub", tree),
                     lambda tree: ("trap", "end", tree), lambda tree: ("times", 1, tree)):
            self.assertEqual(program_size(main(nested(wrap, 59, A))), (60, 60))
            self.assert_fault(main(nested(wrap, 60, A)), (-1,) + (0,) * 60)
            self.assert_fault(main(nested(wrap, 60, 3)), (-1,) + (0,) * 60)
            self.assert_fault(main(nested(wrap, 59, 3)), (-1,) + (0,) * 59)
            self.assert_fault(((("f", nested(wrap, 60, A)),), A), (0,) * 61)
            self.assertIsNone(check_program(((("f", nested(wrap, 59, A)),), A)))
        second = nested(lambda tree: ("and", A, tree), 60, A)
        self.assert_fault(main(second), (-1,) + (1,) * 59 + (0,))
        self.assert_fault(main(seq(None, nested(lambda tree: ("not", tree), 70, A))), (-1, 0))

    def test_deep_values(self):
        for depth in (1000, 1500, 5000, 20000):
            self.assert_fault(main(nested(lambda tree: ("not", tree), depth, A)),
                              (-1,) + (0,) * 60)
            deep = nested(lambda value: (value,), depth, 1)
            deep_list = nested(lambda value: [value], depth, 1)
            for value in (deep, deep_list):
                self.assert_fault(value, ())
                self.assert_fault(((), value), (-1,))
                self.assert_fault((value, A), () if value is deep_list else (0,))
                self.assert_fault(((value,), A), (0,))
                self.assert_fault((((value, A),), A), (0,))
                for tree in (("run", value), ("status", value), ("option", value, True),
                             ("trap", value, A), ("seq", value), ("call", value), (value, A)):
                    self.assert_fault(((), tree), (-1,))
                self.assert_fault(((), ("not", value)), (-1, 0))

    def test_shared_parts(self):
        shared = nested(lambda tree: seq(tree, tree), 59, A)
        self.assert_fault(main(shared), ())
        self.assert_fault(((("f", A), ("g", shared)), A), ())
        deeper = nested(lambda tree: ("and", tree, tree), 60, A)
        self.assert_fault(main(deeper), (-1,) + (0,) * 60)
        wide = nested(lambda tree: ("seq", (tree,) * 100000), 59, A)
        self.assert_fault(main(wide), ())
        small = nested(lambda tree: seq(tree, tree), 10, A)
        self.assertEqual(program_size(main(small)), (2047, 2047))

    def test_shared_parts_have_paths_of_their_own(self):
        part = ("not", ("break", 1))
        self.assert_fault(main(("while", part, part), part), (-1, 1, 0))

    def test_variables(self):
        names = letters(41)
        words = ("give", "zero", "keep")
        using = [(words[place % 3], name) for place, name in enumerate(names)]
        self.assertEqual(command_names(main(*using[:40])), ([], names[:40]))
        self.assert_fault(main(*using), ())
        self.assertIsNone(check_program(main(*using[:40], *using[:40])))
        self.assert_fault(((("f", seq(*using[:21])),), seq(*using[21:])), ())
        self.assert_fault(main(*using[:40], ("trap", "end", ("put", "other", 1))), ())
        commands = [("run", name) for name in names]
        self.assertIsNone(check_program(main(*using[:40], *commands)))

    def test_other_faults_come_before_too_many_variables(self):
        using = [("give", name) for name in letters(41)]
        self.assert_fault(main(*using, None), (-1, 41))
        self.assert_fault(((("f", seq(*using)),), ("run", "")), (-1,))

    def test_unfolded_size_by_times(self):
        self.assertEqual(program_size(main(("times", 1000, A), trees(1998))), (2001, 3000))
        self.assert_fault(main(("times", 1000, A), trees(1999)), ())
        twice = main(("times", 2, trees(998)), ("times", 1000, A))
        self.assertEqual(program_size(twice), (1002, 2999))
        self.assertEqual(program_size(main(("times", 1, trees(2997)), A))[1], 3000)
        self.assert_fault(main(("times", 1, trees(2998)), A), ())
        self.assert_fault(main(nested(lambda tree: ("times", 1000, tree), 59, A)), ())
        self.assertIsNone(check_program(main(nested(lambda tree: ("times", 0, tree), 59, A))))

    def test_unfolded_size_by_calls(self):
        for size, fits in ((998, True), (999, False)):
            calls = seq(*[("call", "f")] * 3)
            program = ((("f", trees(size)),), seq(calls, A))
            if fits:
                self.assertEqual(program_size(program)[1], 2 + 1 + 3 * (1 + size))
            else:
                self.assert_fault(program, ())
        exact = ((("f", trees(1498)),), seq(("call", "f"), ("times", 1, ("call", "f"))))
        self.assertEqual(program_size(exact)[1], 3000)
        over = ((("f", trees(1498)),), seq(("call", "f"), ("times", 1, ("call", "f")), A))
        self.assert_fault(over, ())

    def test_unfolded_size_that_doubles(self):
        functions = [("fa", A)]
        for letter in "bcdefghijklmnopqrst":
            call = ("call", functions[-1][0])
            functions.append(("f" + letter, seq(call, call)))
        self.assertEqual(len(functions), 20)
        self.assert_fault((tuple(functions), ("call", "ft")), ())
        self.assertEqual(program_size((tuple(functions), A))[1], 1)

    def test_other_faults_come_before_the_unfolded_size(self):
        large = ("times", 1000, ("times", 1000, A))
        self.assert_fault(main(large, ("status", 256)), (-1, 1))

    def test_all_functions_check(self):
        for call in (program_size, command_names, lambda value: run(value, []),
                     lambda value: asked_paths(value, [])):
            for value, path in ((main(trees(3001)), ()), (main(("not", 3)), (-1, 0))):
                with self.assertRaises(InvalidProgram) as caught:
                    call(value)
                self.assertEqual(caught.exception.path, path)


if __name__ == "__main__":
    unittest.main()
