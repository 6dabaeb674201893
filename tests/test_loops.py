"""Loops, calls and exits in runs."""

import unittest

from tests.checking import RunTest
from tests.trees import A, B, C, D, FAIL_ON, Z, main, pipe, seq, status

KEPT = seq(("keep", "x"), ("give", "x"))


def function(body, *parts):
    """A program with the function g."""
    return ((("g", body),), parts[0] if len(parts) == 1 else seq(*parts))


class Break(RunTest):
    def test_leaves_with_status_zero(self):
        for loop in (lambda tree: ("while", status(0), tree), lambda tree: ("times", 9, tree),
                     lambda tree: ("until", status(1), tree)):
            self.ends(main(loop(seq(A, ("break", 1)))), [5], "a", 0)
            self.asks(main(loop(seq(A, ("break", 1), B)), C), [5], "a", "c")

    def test_forgets_the_status_of_earlier_bodies(self):
        program = main(("while", A, ("if", B, ("break", 1), status(6))))
        self.ends(program, [0, 3, 1], "aba", 6)
        self.ends(program, [0, 3, 0, 0], "abab", 0)

    def test_out_of_conditions(self):
        self.ends(main(("while", seq(A, ("break", 1)), B)), [5], "a", 0)
        self.ends(main(("until", ("or", A, ("break", 1)), B)), [5], "a", 0)
        self.ends(main(("until", ("if", A, ("break", 1), status(4)), B)), [5, 6, 0], "aba", 0)
        inner = ("while", ("break", 2), B)
        self.ends(main(("while", A, seq(inner, B)), C), [0, 4], "ac", 4)
        outer = ("while", ("times", 2, seq(A, ("break", 2))), B)
        self.ends(main(outer, C), [5, 6], "ac", 6)

    def test_several_loops(self):
        def loops(count):
            leave = ("if", A, ("break", count), None)
            inner = seq(("times", 2, leave), B)
            return main(("times", 2, seq(("times", 2, inner), C)), D)
        self.asks(loops(1), [0], "a", "b")
        self.asks(loops(2), [0], "a", "c")
        self.asks(loops(3), [0], "a", "d")
        self.asks(loops(3), [1, 0], "aa", "d")
        self.asks(loops(3), [1, 1], "aa", "b")
        self.ends(loops(3), [0, 8], "ad", 8)

    def test_skips_checks_and_tests(self):
        self.ends(main(FAIL_ON, ("while", status(0), ("not", ("break", 1)))), [], "", 0)
        self.ends(main(FAIL_ON, A, ("times", 2, ("or", B, ("break", 1))), C), [0, 7, 0], "abc", 0)

    def test_inside_functions(self):
        program = function(("while", A, ("break", 1)), ("while", B, ("call", "g")), C)
        self.asks(program, [0, 0], "ba", "b")
        self.asks(program, [0, 1], "ba", "b")
        self.asks(program, [1], "b", "c")


class Next(RunTest):
    def test_in_bodies(self):
        program = main(("while", A, seq(B, ("next", 1), C)))
        self.asks(program, [0, 5], "ab", "a")
        self.ends(program, [0, 5, 1], "aba", 0)
        program = main(("until", A, seq(B, ("next", 1))))
        self.ends(program, [1, 5, 0], "aba", 0)

    def test_round_counts_with_status_zero(self):
        body = ("if", B, ("next", 1), status(6))
        self.ends(main(("while", A, body)), [0, 1, 1], "aba", 6)
        self.ends(main(("while", A, body)), [0, 1, 0, 0, 1], "ababa", 0)
        self.ends(main(("times", 2, seq(A, ("next", 1)))), [5, 5], "aa", 0)
        self.ends(main(("times", 2, ("or", A, ("next", 1)))), [5, 5], "aa", 0)
        self.ends(main(("times", 2, ("if", A, ("next", 1), status(4)))), [0, 1], "aa", 4)

    def test_rounds_of_a_times(self):
        program = main(("times", 3, seq(A, ("next", 1), B)), C)
        self.asks(program, [1, 2], "aa", "a")
        self.asks(program, [1, 2, 3], "aaa", "c")
        self.ends(main(("times", 1, seq(A, ("next", 1)))), [1], "a", 0)

    def test_in_conditions(self):
        program = main(("while", ("or", A, ("next", 1)), B), C)
        self.asks(program, [1], "a", "a")
        self.asks(program, [1, 1, 0], "aaa", "b")
        ending = main(("until", ("if", A, ("next", 1), B), status(6)))
        self.ends(ending, [1, 0], "ab", 0)
        self.ends(ending, [1, 1, 1, 0], "abab", 6)
        # The next makes the status of the loop 0 again.
        self.ends(ending, [1, 1, 0, 1, 0], "abaab", 0)
        self.silent(main(("while", ("next", 1), A)), [], "")

    def test_condition_starts_with_zero(self):
        program = main(("until", ("if", KEPT, A, B), seq(C, ("next", 1))))
        self.asks(program, [1, 5], "ac", "a")
        self.asks(main(("until", ("if", KEPT, A, B), C)), [1, 5], "ac", "b")

    def test_several_loops(self):
        def loops(count):
            go = ("if", A, ("next", count), None)
            inner = seq(("times", 2, seq(go, B)), status(3))
            return main(("times", 2, seq(("times", 2, inner), C)), D)
        self.asks(loops(1), [0, 0], "aa", "a")
        self.asks(loops(1), [0, 1], "aa", "b")
        self.asks(loops(2), [0, 0], "aa", "c")
        self.asks(loops(3), [0], "a", "a")
        self.asks(loops(3), [0, 0], "aa", "d")
        self.asks(loops(3), [0, 1], "aa", "b")

    def test_next_of_an_outer_loop_in_a_condition(self):
        inner = ("while", ("if", A, ("next", 2), status(0)), B)
        program = main(("times", 2, seq(inner, C)), D)
        self.asks(program, [0, 0], "aa", "d")
        self.asks(program, [1, 5, 0], "aba", "a")

    def test_next_from_a_loop_within_a_condition(self):
        program = main(("while", ("times", 5, seq(A, ("next", 2))), B))
        self.asks(program, [3, 3, 3, 3, 3, 3], "aaaaaa", "a")


class Times(RunTest):
    def test_rounds(self):
        program = main(("times", 300, A), ("exit", None))
        self.asks(program, [1] * 299, "a" * 299, "a")
        self.ends(program, [1] * 299 + [8], "a" * 300, 8)

    def test_starts_anew_in_each_outer_round(self):
        program = main(("times", 2, ("times", 2, A)), B)
        self.asks(program, [1] * 3, "aaa", "a")
        self.asks(program, [1] * 4, "aaaa", "b")
        broken = main(("times", 2, ("times", 3, ("or", A, ("break", 1)))), B)
        self.asks(broken, [1, 0, 0], "aaa", "a")
        self.asks(broken, [1, 0, 0, 0], "aaaa", "b")


class Calls(RunTest):
    def test_body_starts_with_the_last_status(self):
        self.ends(function(KEPT, A, ("call", "g")), [5], "a", 5)
        self.ends(function(("exit", None), A, ("call", "g"), B), [5], "a", 5)
        self.ends(function(("return", None), A, ("call", "g")), [5], "a", 5)
        self.ends(function(seq(A, ("return", None)), ("call", "g")), [5], "a", 5)

    def test_return(self):
        for number in (0, 1, 255):
            body = seq(A, ("return", number), B)
            self.ends(function(body, ("call", "g")), [9], "a", number)
            self.ends(function(body, ("call", "g"), C), [9, 4], "ac", 4)
        self.ends(function(seq(A, ("return", None), B), ("call", "g"), ("exit", None)), [9], "a", 9)

    def test_return_out_of_loops_and_conditions(self):
        for inside in (("while", A, ("return", 3)), ("times", 4, seq(A, ("return", 3))),
                       ("while", seq(A, ("return", 3)), B), ("if", seq(A, ("return", 3)), B, None),
                       ("not", seq(A, ("return", 3))), ("and", A, ("times", 2, ("return", 3))),
                       ("until", ("not", A), ("while", status(0), ("return", 3)))):
            program = function(seq(inside, B), ("call", "g"), ("keep", "x"), C, ("give", "x"))
            self.ends(program, [0, 0], "ac", 3)

    def test_return_leaves_one_call(self):
        functions = (("f", seq(A, ("return", 4), B)), ("g", seq(("call", "f"), C, ("return", 6))))
        program = (functions, seq(("call", "g"), ("keep", "x"), D, ("give", "x")))
        self.asks(program, [1], "a", "c")
        self.asks(program, [1, 2], "ac", "d")
        self.ends(program, [1, 2, 3], "acd", 6)

    def test_check_behind_the_call(self):
        leaving = ("return", 4)
        self.ends(function(leaving, FAIL_ON, ("call", "g"), A), [], "", 4)
        self.asks(function(leaving, FAIL_ON, ("or", ("call", "g"), A), B), [0], "a", "b")
        self.asks(function(leaving, ("call", "g"), A), [], "", "a")
        self.asks(function(("return", 0), FAIL_ON, ("call", "g"), A), [], "", "a")
        self.ends(function(("not", A), FAIL_ON, ("call", "g"), B), [0], "a", 1)

    def test_return_skips_checks(self):
        program = function(("not", ("or", A, ("return", 0))), FAIL_ON, ("call", "g"), B)
        self.asks(program, [5], "a", "b")
        self.ends(program, [0], "a", 1)

    def test_variables_and_options_are_shared(self):
        program = function(seq(("put", "x", 3), FAIL_ON), ("call", "g"), ("give", "x"), A)
        self.ends(program, [], "", 3)

    def test_loop_around_a_call_goes_on_behind_return(self):
        program = function(("while", A, ("return", 4)), ("while", ("call", "g"), B))
        self.ends(program, [0], "a", 0)
        self.asks(program, [1, 0], "ab", "a")


class Exits(RunTest):
    def test_everywhere(self):
        for number, expected in ((None, 5), (0, 0), (7, 7)):
            leave = ("exit", number)
            for program in (main(A, leave, B), main(("if", A, B, leave), C),
                            main(("if", seq(A, leave), B, None), C),
                            main(("while", seq(A, leave), B), C),
                            main(("times", 3, seq(A, leave)), C),
                            main(("not", seq(A, leave)), C), main(("or", A, leave), C),
                            function(seq(A, leave), ("call", "g"), C),
                            function(seq(A, leave), ("not", ("call", "g")), C),
                            function(seq(A, leave), ("until", ("call", "g"), B), C)):
                self.ends(program, [5], "a", expected)

    def test_new_shells_alone_end(self):
        for number, expected in ((None, 5), (0, 0), (7, 7)):
            leave = seq(A, ("exit", number), B)
            self.ends(main(("sub", leave)), [5], "a", expected)
            self.asks(main(("sub", leave), C), [5], "a", "c")
            self.asks(main(pipe(leave, C)), [5], "a", "c")
            self.ends(main(("option", "pipes", True), pipe(leave, C)), [5, 0], "ac", expected)
            self.asks(function(leave, ("sub", seq(("call", "g"), D)), C), [5], "a", "c")
            self.ends(main(("while", ("sub", leave), ("break", 1)), ("exit", 9)), [5], "a", 9)

    def test_exit_is_not_checked(self):
        self.ends(main(FAIL_ON, ("trap", "fail", Z), ("exit", 4)), [], "", 4)
        self.ends(main(FAIL_ON, ("trap", "fail", Z), ("sub", ("exit", 4))), [6], "z", 4)


if __name__ == "__main__":
    unittest.main()
