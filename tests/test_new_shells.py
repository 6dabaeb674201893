"""Subs and pipes: what comes back from a new shell, and what does not."""

import unittest

from tests.checking import RunTest
from tests.trees import A, B, C, D, FAIL_OFF, FAIL_ON, PIPES_OFF, PIPES_ON, Z, main, pipe, seq, status

# Ways to carry out a tree in a new shell.
STARTS = (lambda tree: ("sub", tree), lambda tree: pipe(status(0), tree),
          lambda tree: pipe(tree, ("give", "other")), lambda tree: ("sub", ("sub", tree)),
          lambda tree: pipe(pipe(status(0), tree), status(0)))


class GoneBehind(RunTest):
    def test_variables(self):
        for start in STARTS:
            self.ends(main(("put", "x", 3), start(("put", "x", 4)), ("give", "x")), [], "", 3)
            self.ends(main(start(("put", "x", 4)), ("give", "x")), [], "", 0)
            keeping = main(start(seq(A, ("keep", "x"))), ("give", "x"))
            self.ends(keeping, [7], "a", 0)

    def test_options(self):
        for start in STARTS:
            self.asks(main(start(FAIL_ON), A, B), [5], "a", "b")
            self.ends(main(FAIL_ON, start(FAIL_OFF), A, B), [5], "a", 5)
            self.ends(main(start(PIPES_ON), pipe(A, B)), [5, 0], "ab", 0)
            self.ends(main(PIPES_ON, start(PIPES_OFF), pipe(A, B)), [5, 0], "ab", 5)

    def test_traps(self):
        for start in STARTS:
            self.ends(main(start(("trap", "fail", Z)), A, B), [5, 6], "ab", 6)
            self.ends(main(("trap", "end", Z), start(("trap", "end", None)), A), [5, 6], "az", 5)
            self.ends(main(("trap", "fail", Z), start(("trap", "fail", None)), A), [5, 6], "az", 5)
            self.ends(main(("trap", "fail", Z), start(("trap", "fail", B)), A), [5, 6], "az", 5)

    def test_what_functions_set(self):
        body = seq(("put", "x", 4), FAIL_ON, PIPES_ON, ("trap", "end", Z), ("trap", "fail", Z))
        for start in STARTS:
            program = ((("g", body),), seq(start(("call", "g")), pipe(A, B), ("give", "x"), C, D))
            self.ends(program, [0, 1, 2, 3, 4], "zabcd", 4)

    def test_end_trap_of_the_new_shell_runs_there_only(self):
        for start in STARTS:
            program = main(start(seq(("trap", "end", Z), A)), B)
            self.asks(program, [0], "a", "z")
            self.asks(program, [0, 1], "az", "b")
            self.ends(program, [0, 1, 2], "azb", 2)


class ComesIn(RunTest):
    def test_variables_options_and_status(self):
        for start in STARTS:
            self.asks(main(start(("if", ("zero", "x"), A, B))), [], "", "a")
            self.asks(main(("put", "x", 1), start(("if", ("zero", "x"), A, B))), [], "", "b")
            self.asks(main(FAIL_ON, start(seq(("or", A, B), C))), [0], "a", "c")
            self.ends(main(("sub", seq(start(("exit", 4)), A))), [0], "a", 0)
        for start in (STARTS[0], STARTS[1], STARTS[3]):
            self.ends(main(("put", "x", 3), start(("give", "x"))), [], "", 3)
            self.ends(main(FAIL_ON, start(seq(A, B)), C), [5, 6], "a", 5)
        self.ends(main(A, ("sub", ("sub", ("exit", None)))), [5], "a", 5)

    def test_option_fail_ends_the_new_shell(self):
        self.ends(main(FAIL_ON, ("sub", seq(A, B)), C), [5], "a", 5)
        self.asks(main(FAIL_ON, pipe(seq(A, B), C)), [5], "a", "c")
        self.asks(main(FAIL_ON, pipe(C, seq(A, B)), D), [1, 0], "ca", "b")
        self.ends(main(FAIL_ON, pipe(C, seq(A, B)), D), [1, 2], "ca", 2)
        self.asks(main(("sub", seq(FAIL_ON, A, B)), C), [5], "a", "c")

    def test_option_pipes_of_a_new_shell(self):
        self.ends(main(PIPES_ON, ("sub", pipe(A, B))), [5, 0], "ab", 5)
        self.ends(main(("sub", seq(PIPES_ON, pipe(A, B)))), [5, 0], "ab", 5)
        # The option counts in the shell around the pipe, not in its parts.
        self.ends(main(pipe(seq(PIPES_ON, A), B)), [5, 0], "ab", 0)
        self.ends(main(PIPES_ON, pipe(seq(PIPES_OFF, A), B)), [5, 0], "ab", 5)

    def test_no_traps(self):
        program = main(("trap", "fail", Z), ("sub", seq(A, B)), C)
        self.asks(program, [5], "a", "b")
        self.asks(program, [5, 0], "ab", "c")
        self.asks(program, [5, 6], "ab", "z")
        self.ends(main(("trap", "end", Z), ("sub", ("exit", 4)), A), [1, 2], "az", 1)
        self.asks(main(("trap", "end", Z), pipe(A, ("exit", 4))), [0], "a", "z")
        self.ends(main(("trap", "end", Z), pipe(A, ("exit", 4))), [0, 9], "az", 4)


class Checks(RunTest):
    def test_sub(self):
        program = main(FAIL_ON, ("sub", ("and", A, B)), C)
        self.ends(program, [5], "a", 5)
        self.ends(program, [0, 5], "ab", 5)
        self.asks(program, [0, 0], "ab", "c")
        self.ends(main(FAIL_ON, ("sub", ("not", A)), C), [0], "a", 1)
        self.asks(main(FAIL_ON, ("and", ("sub", A), B), C), [5], "a", "c")
        self.asks(main(FAIL_ON, ("if", ("sub", seq(A, B)), C, D)), [5, 0], "ab", "c")

    def test_tested_sub_and_pipe_check_nothing_inside(self):
        self.asks(main(FAIL_ON, ("not", ("sub", seq(A, B)))), [5], "a", "b")
        self.asks(main(FAIL_ON, ("not", pipe(seq(A, B), C))), [5], "a", "b")
        self.asks(main(("not", ("sub", seq(FAIL_ON, ("trap", "fail", Z), A, B)))), [5], "a", "b")

    def test_pipe_with_the_option_pipes(self):
        program = main(FAIL_ON, PIPES_ON, pipe(A, B), C)
        self.ends(program, [5, 0], "ab", 5)
        self.ends(program, [5, 6], "ab", 6)
        self.asks(program, [0, 0], "ab", "c")
        self.asks(main(FAIL_ON, PIPES_ON, ("or", pipe(A, B), D), C), [5, 0], "ab", "d")

    def test_pipe_without_the_option_pipes(self):
        program = main(FAIL_ON, pipe(A, B), C)
        self.asks(program, [5, 0], "ab", "c")
        self.ends(program, [5, 6], "ab", 6)
        self.ends(main(FAIL_ON, PIPES_ON, PIPES_OFF, pipe(A, B), C), [0, 6], "ab", 6)

    def test_pipe_of_many_parts(self):
        parts = [("run", name) for name in "abcdefgh"]
        for options, wanted in (([], 0), ([PIPES_ON], 6)):
            self.ends(main(*options, pipe(*parts)), [1, 0, 3, 4, 0, 6, 0, 0], "abcdefgh", wanted)

    def test_failures_that_come_from_inner_pipes(self):
        inner = pipe(A, B)
        self.ends(main(PIPES_ON, pipe(inner, C)), [5, 0, 0], "abc", 5)
        self.ends(main(pipe(seq(PIPES_ON, inner), C)), [5, 0, 0], "abc", 0)
        self.ends(main(PIPES_ON, pipe(seq(PIPES_OFF, inner), C)), [5, 0, 0], "abc", 0)

    def test_how_often_a_fail_trap_is_carried_out(self):
        # Behind a sub once, for the outer shell; inside, the shell has no trap.
        self.ends(main(("trap", "fail", Z), ("sub", A), ("exit", 0)), [5, 1], "az", 0)
        self.ends(main(("trap", "fail", Z), pipe(A, B), ("exit", 0)), [5, 6, 1], "abz", 0)
        self.ends(main(("trap", "fail", Z), pipe(A, B), ("exit", 0)), [5, 0], "ab", 0)
        self.ends(main(PIPES_ON, ("trap", "fail", Z), pipe(A, B), ("exit", 0)), [5, 0, 1], "abz", 0)
        self.ends(main(("trap", "fail", Z), ("sub", ("sub", A))), [5, 1], "az", 5)
        # A trap of its own is carried out inside, and then the outer one behind.
        own = ("sub", seq(("trap", "fail", D), A, status(0), B))
        program = main(("trap", "fail", Z), own)
        self.ends(program, [5, 0, 6, 0, 0], "adbdz", 6)
        self.ends(program, [5, 0, 0], "adb", 0)

    def test_no_call_is_open_in_a_new_shell(self):
        body = ("sub", seq(("trap", "fail", Z), A))
        program = ((("g", seq(body, B)),), seq(("trap", "fail", D), ("call", "g")))
        # The trap of the sub begins within the call; behind the sub a call is open.
        self.asks(program, [5], "a", "z")
        self.asks(program, [5, 1], "az", "b")
        self.ends(program, [5, 1, 6, 0], "azbd", 6)
        inside = ((("g", A),), ("sub", seq(("trap", "fail", Z), ("call", "g"))))
        self.ends(inside, [5, 6], "az", 5)


class Ends(RunTest):
    def test_end_traps_of_inner_and_outer_shells(self):
        inner = seq(("trap", "end", B), A, ("exit", 3))
        program = main(("trap", "end", Z), ("sub", inner), ("exit", None))
        self.ends(program, [7, 8, 9], "abz", 3)
        program = main(("trap", "end", Z), FAIL_ON, ("sub", seq(("trap", "end", B), A, C)), D)
        self.ends(program, [7, 8, 9], "abz", 7)

    def test_exit_in_an_end_trap_of_a_sub(self):
        inner = seq(("trap", "end", seq(B, ("exit", 4))), A)
        self.asks(main(("sub", inner), ("or", ("give", "x"), C), D), [7, 8], "ab", "d")
        self.ends(main(FAIL_ON, ("sub", inner), D), [0, 0], "ab", 4)

    def test_exit_in_a_sub_within_a_trap_body(self):
        # No trap body is open in the new shell, so exit takes its last status.
        body = seq(A, ("sub", seq(B, ("exit", None))), ("keep", "x"), ("give", "x"))
        program = main(("trap", "end", seq(body, ("if", ("give", "x"), C, D))), status(5))
        self.asks(program, [1, 0], "ab", "c")
        self.asks(program, [1, 2], "ab", "d")
        direct = main(("trap", "end", ("sub", ("exit", None))), status(5))
        self.ends(direct, [], "", 5)

    def test_sub_in_a_trap_body_starts_with_its_status(self):
        body = ("sub", ("and", seq(("keep", "x"), ("give", "x")), A))
        self.ends(main(("trap", "end", body), status(5)), [], "", 5)
        self.asks(main(("trap", "end", body), status(0)), [], "", "a")

    def test_loops_around_new_shells(self):
        program = main(("while", A, ("sub", seq(B, ("exit", 6)))))
        self.ends(program, [0, 1, 0, 1, 1], "ababa", 6)
        program = main(("until", pipe(A, B), C))
        self.ends(program, [0, 1, 5, 1, 0], "abcab", 5)


if __name__ == "__main__":
    unittest.main()
