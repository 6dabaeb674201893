"""Programs that ask often, and trees that are open very deep."""

import unittest

from shellways.shells import asked_paths
from tests.checking import RunTest
from tests.trees import A, B, C, FAIL_ON, PIPES_ON, Z, main, nested, pipe, seq, status

ALPHABET = "abcdefghijklmnopqrst"


def chain(body, wrap):
    """Twenty functions; the first has the body, each other wraps a call of the one before."""
    functions = [("fa", body)]
    for letter in ALPHABET[1:]:
        functions.append(("f" + letter, wrap(("call", functions[-1][0]))))
    return tuple(functions)


class Endless(RunTest):
    def test_loops_that_ask_for_ever(self):
        for length in (300, 10000):
            self.asks(main(("until", A, ("not", A))), [1] * length, "a" * length, "a")
            self.asks(main(("while", A, B)), [0, 1] * (length // 2), "ab" * (length // 2), "a")
            program = main(("while", status(0), seq(("sub", A), pipe(B, C))))
            row = [3, 0, 4] * (length // 3)
            self.asks(program, row, "abc" * (length // 3), "a")
            self.assertEqual(asked_paths(program, row)[-3:],
                             [(-1, 1, 0, 0), (-1, 1, 1, 0), (-1, 1, 1, 1)])

    def test_end_behind_a_long_row(self):
        program = main(("until", A, ("keep", "x")), ("give", "x"))
        self.ends(program, list(range(1, 9999)) + [0], "a" * 9999, 9998)
        self.ends(main(("while", A, B)), [0, 7] * 4999 + [1], "ab" * 4999 + "a", 7)

    def test_fail_trap_in_an_endless_loop(self):
        program = main(("trap", "fail", Z), ("while", status(0), A))
        self.asks(program, [1, 2] * 3000, "az" * 3000, "a")

    def test_functions_in_an_endless_loop(self):
        functions = chain(("or", A, ("return", 3)), lambda call: ("if", call, B, ("return", 4)))
        program = (functions, ("until", ("call", "ft"), C))
        self.asks(program, [1, 0] * 200, "ac" * 200, "a")
        self.ends(program, [1, 0] * 200 + [0] * 20, "ac" * 200 + "a" + "b" * 19, 0)

    def test_many_trees_between_two_commands(self):
        program = main(("while", A, ("times", 300, seq(status(0), ("not", status(1))))))
        self.silent(program, [0], "a")
        program = main(("while", A, ("times", 240, seq(status(0), ("not", status(1))))))
        self.asks(program, [0] * 300, "a" * 300, "a")


class Times(RunTest):
    def test_hundreds_of_rounds(self):
        program = main(("times", 900, A), B)
        self.asks(program, [3] * 899, "a" * 899, "a")
        self.asks(program, [3] * 900, "a" * 900, "b")
        program = main(("times", 30, ("times", 40, A)))
        self.ends(program, [1] * 1199 + [8], "a" * 1200, 8)

    def test_thousand_rounds(self):
        self.ends(main(("times", 1000, A)), [4] * 1000, "a" * 1000, 4)
        self.ends(main(("times", 1000, ("sub", A))), [4] * 1000, "a" * 1000, 4)

    def test_within_a_loop(self):
        program = main(("while", A, ("times", 500, B)))
        self.asks(program, ([0] + [1] * 500) * 19, ("a" + "b" * 500) * 19, "a")


class Deep(RunTest):
    def test_each_sort_more_than_fifty_deep(self):
        wraps = (
            (lambda tree: seq(tree, status(0)), 0), (lambda tree: seq(status(0), tree), 5),
            (lambda tree: ("and", status(0), tree), 5), (lambda tree: ("or", status(1), tree), 5),
            (lambda tree: ("and", tree, B), 5), (lambda tree: ("or", tree, status(6)), 6),
            (lambda tree: ("if", tree, B, status(6)), 6), (lambda tree: ("if", status(0), tree, B), 5),
            (lambda tree: ("if", status(1), B, tree), 5), (lambda tree: ("while", status(0), seq(tree, ("break", 1))), 0),
            (lambda tree: ("while", seq(tree, status(1)), B), 0),
            (lambda tree: ("until", seq(tree, status(0)), B), 0),
            (lambda tree: ("times", 1, tree), 5), (lambda tree: ("sub", tree), 5),
            (lambda tree: pipe(status(0), tree), 5), (lambda tree: pipe(tree, status(0)), 0),
        )
        for wrap, end in wraps:
            # Some of them are two trees deep.
            depth = 29 if wrap(A)[0] in ("while", "until") else 58
            self.asks(main(nested(wrap, depth, A)), [], "", "a")
            self.ends(main(nested(wrap, depth, A)), [5, 5], "a", end)
        nots = nested(lambda tree: ("not", tree), 58, A)
        self.ends(main(nots), [5], "a", 1)
        self.ends(main(nots[1]), [5], "a", 0)

    def test_pipes_give_the_failure_through(self):
        program = main(PIPES_ON, nested(lambda tree: pipe(tree, status(0)), 57, A))
        self.ends(program, [5], "a", 5)

    def test_checks_of_deep_subs(self):
        program = main(FAIL_ON, nested(lambda tree: ("sub", seq(tree, B)), 28, A))
        self.ends(program, [5], "a", 5)
        program = main(("trap", "fail", Z), nested(lambda tree: ("sub", tree), 57, A))
        self.ends(program, [5, 0], "az", 5)
        trapped = nested(lambda tree: ("sub", seq(("trap", "fail", Z), tree)), 28, A)
        self.ends(main(trapped), [5] + [0] * 28, "a" + "z" * 28, 5)
        ending = nested(lambda tree: ("sub", seq(("trap", "end", Z), tree)), 28, A)
        self.ends(main(ending), [5] + [0] * 28, "a" + "z" * 28, 5)

    def test_shells_that_end_one_behind_the_other(self):
        functions = chain(A, lambda call: nested(lambda tree: ("sub", tree), 45, call))
        for program in ((functions, seq(FAIL_ON, ("call", "ft"), B)),
                        (functions, seq(FAIL_ON, PIPES_ON, pipe(("call", "ft"), status(0)), B))):
            self.ends(program, [5], "a", 5)

    def test_traps_that_set_traps(self):
        body = nested(lambda tree: seq(("trap", "end", tree), Z), 25, A)
        self.ends(main(("trap", "end", body), B), [5, 6], "bz", 5)
        shells = nested(lambda tree: ("sub", ("trap", "end", tree)), 28, A)
        self.ends(main(shells), [5], "a", 0)
        shells = nested(lambda tree: ("sub", ("trap", "end", seq(tree, ("exit", 7)))), 19, A)
        self.ends(main(shells), [5], "a", 7)

    def test_break_out_of_many_loops(self):
        for count in (1, 30, 57):
            loops = nested(lambda tree: ("times", 1, tree), 57, ("or", A, ("break", count)))
            self.ends(main(loops), [5], "a", 0)
        inner = nested(lambda tree: ("while", status(0), tree), 55, ("or", A, ("break", 56)))
        self.asks(main(("while", B, inner)), [0, 0, 0], "baa", "a")
        self.ends(main(("while", B, inner), C), [0, 5, 8], "bac", 8)
        self.ends(main(("while", B, inner), C), [0, 0, 0, 5, 0], "baaac", 0)

    def test_next_through_many_loops(self):
        inner = nested(lambda tree: ("while", status(0), tree), 55, ("or", A, ("next", 56)))
        self.asks(main(("while", B, inner)), [0, 5], "ba", "b")
        self.ends(main(("while", B, inner)), [0, 5, 0, 0, 6, 1], "babaab", 0)

    def test_return_and_exit_from_the_depth(self):
        for leave, end in ((("return", 3), 9), (("return", None), 9), (("exit", 3), 3)):
            body = nested(lambda tree: ("if", status(0), tree, B), 50, seq(A, leave))
            self.ends(((("g", body),), seq(("call", "g"), ("exit", 9))), [5], "a", end)


class Functions(RunTest):
    def test_twenty_functions(self):
        for wrap, end in ((lambda call: call, 7), (lambda call: ("not", ("not", call)), 1),
                          (lambda call: ("sub", call), 7), (lambda call: ("times", 1, call), 7),
                          (lambda call: seq(status(0), call), 7),
                          (lambda call: ("or", status(1), call), 7),
                          (lambda call: ("if", status(0), call, None), 7)):
            self.ends((chain(status(7), wrap), ("call", "ft")), [], "", end)
        pipes = chain(status(7), lambda call: pipe(A, call))
        self.ends((pipes, ("call", "ft")), [0] * 19, "a" * 19, 7)

    def test_deep_trees_in_twenty_functions(self):
        functions = chain(A, lambda call: nested(lambda tree: ("sub", tree), 45, call))
        program = (functions, seq(FAIL_ON, ("call", "ft"), B))
        self.asks(program, [], "", "a")
        self.ends(program, [5], "a", 5)
        self.asks(program, [0], "a", "b")

    def test_doubling_calls(self):
        functions = chain(A, lambda call: call)[:1]
        for letter in ALPHABET[1:10]:
            call = ("call", functions[-1][0])
            functions = functions + (("f" + letter, ("and", call, call)),)
        program = (functions, ("call", "fj"))
        self.asks(program, [0] * 511, "a" * 511, "a")
        self.ends(program, [0] * 512, "a" * 512, 0)
        self.ends(program, [0] * 300 + [6], "a" * 301, 6)

    def test_exit_through_twenty_calls(self):
        functions = chain(seq(A, ("exit", None)), lambda call: ("while", call, B))
        self.ends((functions, seq(("trap", "end", Z), ("call", "ft"))), [5, 6], "az", 5)

    def test_checks_behind_twenty_calls(self):
        functions = chain(A, lambda call: seq(call, B))
        program = (functions, seq(("trap", "fail", Z), ("call", "ft")))
        self.asks(program, [5] * 20, "a" + "b" * 19, "z")
        self.ends(program, [5] * 21, "a" + "b" * 19 + "z", 5)


if __name__ == "__main__":
    unittest.main()
