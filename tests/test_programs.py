import copy
import unittest

from shellways.errors import InvalidProgram
from shellways.programs import check_program, command_names, program_size
from tests.trees import A, B, FAIL_ON, RESERVED, main, nested, pipe, seq, status

# One tree of each word, valid in the body of a function f behind a function g.
EACH = (
    A, status(0), ("give", "x"), ("zero", "x"), ("keep", "x"), ("put", "x", 0),
    ("option", "fail", True), ("option", "pipes", False), ("trap", "end", A), ("trap", "fail", None),
    seq(A, B), ("and", A, B), ("or", A, B), ("not", A), ("if", A, B, None), ("if", A, B, A),
    ("while", A, B), ("until", A, B), ("times", 3, A), ("while", A, ("break", 1)),
    ("until", ("next", 1), A), ("call", "g"), ("return", None), ("return", 3), ("exit", None),
    ("exit", 3), ("sub", A), pipe(A, B),
)


class CheckProgram(unittest.TestCase):
    def test_each_tree(self):
        for tree in EACH:
            program = ((("g", A), ("f", tree)), ("call", "f"))
            self.assertIsNone(check_program(program), tree)
            if tree[0] != "return":
                self.assertIsNone(check_program(((("g", A),), tree)), tree)

    def test_example(self):
        with self.assertRaises(InvalidProgram) as caught:
            check_program(((), ("and", ("run", "a"), ("break", 1))))
        self.assertEqual(caught.exception.path, (-1, 1))

    def test_limits_of_numbers(self):
        for number in (0, 1, 254, 255):
            for tree in (status(number), ("put", "x", number), ("exit", number)):
                self.assertIsNone(check_program(main(tree)))
            self.assertIsNone(check_program(((("f", ("return", number)),), A)))
        for rounds in (0, 1, 999, 1000):
            self.assertIsNone(check_program(main(("times", rounds, A))))

    def test_names_of_all_lengths(self):
        for length in range(1, 13):
            name = "z" * length
            for tree in (("run", name), ("give", name), ("put", name, 1)):
                self.assertIsNone(check_program(main(tree)))
            self.assertIsNone(check_program((((name, A),), ("call", name))))

    def test_words_that_are_names(self):
        for name in ("run", "seq", "and", "or", "not", "sub", "pipe", "fails", "en", "a", "none"):
            self.assertNotIn(name, RESERVED)
            self.assertIsNone(check_program(main(("run", name))))

    def test_keyword(self):
        self.assertIsNone(check_program(program=main(A)))
        self.assertEqual(program_size(program=main(A)), (1, 1))
        self.assertEqual(command_names(program=main(A)), (["a"], []))

    def test_program_is_not_modified(self):
        program = ((("g", seq(A, B)),), seq(("call", "g"), ("put", "x", 3), FAIL_ON))
        before = copy.deepcopy(program)
        for function in (check_program, program_size, command_names):
            function(program)
        self.assertEqual(program, before)

    def test_all_raise(self):
        for function in (check_program, program_size, command_names):
            for value, path in ((None, ()), (((), 3), (-1,)), (((3,), A), (0,))):
                with self.assertRaises(InvalidProgram) as caught:
                    function(value)
                self.assertEqual(caught.exception.path, path)


class ProgramSize(unittest.TestCase):
    def test_example(self):
        program = ((("f", ("run", "a")),), ("times", 3, ("call", "f")))
        self.assertEqual(program_size(program), (3, 7))
        self.assertIs(type(program_size(program)), tuple)

    def test_each_tree_counts_one(self):
        for tree, size in ((A, 1), (status(3), 1), (("trap", "end", None), 1), (seq(A, B, A), 4),
                           (("trap", "fail", ("not", A)), 3), (("if", A, B, None), 3),
                           (("if", A, B, A), 4), (("while", A, B), 3), (pipe(A, B), 3),
                           (("sub", ("sub", A)), 3), (("and", A, ("or", A, B)), 5)):
            self.assertEqual(program_size(main(tree)), (size, size), tree)

    def test_times_within_times(self):
        program = main(("times", 3, ("times", 4, seq(A, B))))
        self.assertEqual(program_size(program), (5, 1 + 3 * (1 + 4 * 3)))

    def test_no_rounds(self):
        program = main(("times", 0, ("times", 1000, seq(A, B))))
        self.assertEqual(program_size(program), (5, 1))

    def test_thousand_rounds(self):
        self.assertEqual(program_size(main(("times", 1000, A))), (2, 1001))
        self.assertEqual(program_size(main(("times", 1, ("times", 1000, A)))), (3, 1002))

    def test_functions_called_several_times(self):
        functions = (("f", seq(A, B)), ("g", seq(("call", "f"), ("call", "f"))),
                     ("h", ("times", 2, ("and", ("call", "g"), ("call", "f")))))
        f = 3
        g = 1 + 2 * (1 + f)
        h = 1 + 2 * (1 + 1 + g + 1 + f)
        self.assertEqual(program_size((functions, A)), (3 + 3 + 4 + 1, 1))
        self.assertEqual(program_size((functions, ("call", "f"))), (11, 1 + f))
        self.assertEqual(program_size((functions, ("call", "g"))), (11, 1 + g))
        self.assertEqual(program_size((functions, ("call", "h"))), (11, 1 + h))
        several = seq(("call", "h"), ("call", "h"), ("call", "f"))
        self.assertEqual(program_size((functions, several)), (14, 1 + 2 * (1 + h) + 1 + f))

    def test_function_that_is_not_called_may_be_large(self):
        large = nested(lambda tree: ("times", 1000, tree), 58, A)
        functions = [("fa", large)]
        for letter in "bcdefghijklmnopqrst":
            calls = nested(lambda tree: ("times", 1000, tree), 58, ("call", functions[-1][0]))
            functions.append(("f" + letter, calls))
        program = (tuple(functions), ("times", 0, ("call", "ft")))
        self.assertEqual(program_size(program), (20 * 59 + 2, 1))

    def test_traps_count(self):
        program = ((("f", A),), ("trap", "end", seq(("call", "f"), ("trap", "fail", A))))
        self.assertEqual(program_size(program), (6, 6))

    def test_names_do_not_count(self):
        self.assertEqual(program_size(main(("run", "abcdefghijkl"))), (1, 1))


class CommandNames(unittest.TestCase):
    def test_ascending_and_once(self):
        program = main(("run", "c"), ("run", "a"), ("run", "bb"), ("run", "b"), ("run", "a"),
                       ("keep", "y"), ("give", "x"), ("zero", "z"), ("put", "w", 3), ("give", "y"))
        self.assertEqual(command_names(program), (["a", "b", "bb", "c"], ["w", "x", "y", "z"]))

    def test_kinds(self):
        names = command_names(main(A))
        self.assertIs(type(names), tuple)
        self.assertEqual([type(part) for part in names], [list, list])
        self.assertEqual(command_names(main(status(0))), ([], []))

    def test_each_word_that_names_a_variable(self):
        for tree in (("give", "v"), ("zero", "v"), ("keep", "v"), ("put", "v", 1)):
            self.assertEqual(command_names(main(tree)), ([], ["v"]))

    def test_everywhere(self):
        functions = (("f", seq(("run", "inf"), ("keep", "vf"))), ("g", ("call", "f")))
        parts = ("if", ("run", "icond"), ("run", "ithen"), ("run", "ielse"))
        program = (functions, seq(
            ("trap", "end", seq(("run", "intrap"), ("put", "vtrap", 1))), ("sub", ("run", "insub")),
            pipe(("run", "inpipe"), ("zero", "vpipe")), parts, ("times", 0, ("run", "never"))))
        self.assertEqual(command_names(program), (
            ["icond", "ielse", "inf", "inpipe", "insub", "intrap", "ithen", "never"],
            ["vf", "vpipe", "vtrap"]))

    def test_one_name_for_all(self):
        program = ((("a", seq(("run", "a"), ("keep", "a"))),), seq(("call", "a"), ("give", "a")))
        self.assertEqual(command_names(program), (["a"], ["a"]))
        self.assertEqual(program_size(program), (6, 6))

    def test_short_and_long_names(self):
        program = main(("run", "abcdefghijkl"), ("run", "z"), ("put", "zzzzzzzzzzzz", 0),
                       ("give", "a"))
        self.assertEqual(command_names(program), (["abcdefghijkl", "z"], ["a", "zzzzzzzzzzzz"]))

    def test_lists_are_new(self):
        program = main(A, ("keep", "x"))
        first = command_names(program)
        first[0].append("more")
        first[1].clear()
        self.assertEqual(command_names(program), (["a"], ["x"]))


if __name__ == "__main__":
    unittest.main()
