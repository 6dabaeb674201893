"""Traps of shells: when their bodies begin, with which status, and what they leave."""

import unittest

from tests.checking import RunTest
from tests.trees import A, B, C, D, FAIL_OFF, FAIL_ON, Z, main, pipe, seq, status

KEEP = seq(("keep", "x"), ("give", "x"))


def on_end(*body):
    return ("trap", "end", body[0] if len(body) == 1 else seq(*body))


def on_fail(*body):
    return ("trap", "fail", body[0] if len(body) == 1 else seq(*body))


END_OFF = ("trap", "end", None)
NO_FAIL = ("trap", "fail", None)


class FailTraps(RunTest):
    def test_each_check(self):
        for tree, row, names in ((A, [5], "a"), (status(5), [], ""), (("give", "x"), [], ""),
                                 (("call", "g"), [], ""), (("sub", ("exit", 5)), [], ""),
                                 (pipe(A, status(5)), [0], "a")):
            program = ((("g", ("return", 5)),), seq(("put", "x", 5), on_fail(Z), tree, B))
            self.asks(program, row, names, "z")
            self.asks(program, row + [7], names + "z", "b")
            self.ends(program, row + [7, 0], names + "zb", 0)
        self.asks(main(("put", "x", 5), on_fail(Z), ("zero", "x")), [], "", "z")

    def test_each_failure(self):
        program = main(on_fail(Z), A, B, C)
        self.ends(program, [1, 9, 2, 9, 3, 9], "azbzcz", 3)
        self.ends(program, [1, 9, 0, 3, 9], "azbcz", 3)
        self.ends(program, [0, 0, 0], "abc", 0)

    def test_status_is_put_back(self):
        self.ends(main(on_fail(Z), A), [5, 0], "az", 5)
        self.ends(main(on_fail(Z), A), [5, 6], "az", 5)
        self.ends(main(on_fail(Z), A, ("keep", "x"), ("give", "x")), [5, 6, 7], "azz", 5)
        self.ends(main(on_fail(status(0)), A, ("exit", None)), [5], "a", 5)
        self.ends(main(on_fail(("put", "x", 1)), A, ("exit", None)), [5], "a", 5)

    def test_body_starts_with_the_failure(self):
        program = main(on_fail(("keep", "x")), A, ("give", "x"))
        self.ends(program, [5], "a", 5)
        self.ends(main(on_fail(("exit", None)), A, B), [5], "a", 5)
        self.ends(main(on_fail(Z, ("exit", None)), A, B), [5, 6], "az", 5)
        self.ends(main(on_fail(Z, ("exit", 3)), A, B), [5, 6], "az", 3)
        self.ends(main(on_fail(Z, ("exit", 0)), A, B), [5, 6], "az", 0)

    def test_option_fail_as_it_is_behind_the_body(self):
        self.ends(main(FAIL_ON, on_fail(Z), A, B), [5, 6], "az", 5)
        self.ends(main(on_fail(Z, FAIL_ON), A, B), [5, 6], "az", 5)
        self.asks(main(FAIL_ON, on_fail(Z, FAIL_OFF), A, B), [5, 6], "az", "b")
        self.ends(main(FAIL_ON, on_fail(FAIL_OFF), A, B), [5, 6], "ab", 6)

    def test_tested_trees_have_no_check(self):
        for tree in (("and", A, B), ("or", A, status(0)), ("not", A), ("if", A, B, None),
                     ("while", A, B)):
            self.asks(main(on_fail(Z), tree, C), [5], "a", "c")
        self.asks(main(on_fail(Z), ("not", ("sub", A)), C), [5], "a", "c")

    def test_nothing_is_checked_in_the_body(self):
        self.ends(main(on_fail(Z, Z), A), [5, 6, 7], "azz", 5)
        self.ends(main(FAIL_ON, on_fail(Z, D), A, B), [5, 6, 7], "azd", 5)
        program = ((("g", seq(Z, D, ("return", 4))),), seq(FAIL_ON, on_fail(("call", "g")), A, B))
        self.ends(program, [5, 6, 7], "azd", 5)
        program = main(FAIL_ON, on_fail(("sub", seq(Z, D)), pipe(Z, D)), A, B)
        self.ends(program, [5, 1, 1, 1, 1], "azdzd", 5)

    def test_not_while_a_call_is_open(self):
        body = seq(A, status(0))
        self.ends(((("g", body),), seq(on_fail(Z), ("call", "g"))), [5], "a", 0)
        self.ends(((("g", A),), seq(on_fail(Z), ("call", "g"), ("exit", 0))), [5, 6], "az", 0)
        inner = (("f", A), ("g", seq(("call", "f"), B)))
        self.ends((inner, seq(on_fail(Z), ("call", "g"))), [5, 6, 7], "abz", 6)
        # With the option the shell ends within the call, and no trap begins.
        self.ends(((("g", body),), seq(FAIL_ON, on_fail(Z), ("call", "g"))), [5], "a", 5)

    def test_behind_a_call_that_was_left(self):
        for leave, name in ((("return", None), "b"), (("return", 5), "z")):
            program = ((("g", seq(A, ("while", status(0), leave))),),
                       seq(on_fail(Z), A, ("call", "g"), B))
            self.asks(program, [0, 5], "aa", name)
        program = ((("g", ("not", ("return", 5))),), seq(on_fail(Z), ("call", "g"), ("call", "g")))
        self.ends(program, [1, 1], "zz", 5)

    def test_calls_do_not_stay_open(self):
        program = ((("g", A),), seq(on_fail(Z), ("not", ("call", "g")), B, ("exit", 0)))
        self.ends(program, [5, 6, 7], "abz", 0)
        program = ((("g", ("while", A, ("return", 0))),), seq(on_fail(Z), ("call", "g"), B, C))
        self.ends(program, [0, 6, 7, 0], "abzc", 0)

    def test_set_within_a_call(self):
        program = ((("g", seq(on_fail(Z), A)),), seq(("call", "g"), B))
        self.asks(program, [5], "a", "z")
        self.asks(program, [0], "a", "b")
        self.ends(program, [0, 5, 6], "abz", 5)

    def test_replaced_and_removed(self):
        self.ends(main(on_fail(Z), on_fail(D), A), [5, 0], "ad", 5)
        self.ends(main(on_fail(Z), NO_FAIL, A), [5], "a", 5)
        self.ends(main(NO_FAIL, on_fail(Z), A), [5, 0], "az", 5)
        self.ends(main(on_fail(Z), A, on_fail(D), B), [5, 0, 6, 0], "azbd", 6)
        self.ends(main(on_fail(Z), A, NO_FAIL, B), [5, 0, 6], "azb", 6)
        self.ends(main(on_fail(Z), END_OFF, A), [5, 0], "az", 5)

    def test_changed_in_its_own_body(self):
        self.ends(main(on_fail(NO_FAIL, Z), A, B), [5, 0, 6], "azb", 6)
        self.ends(main(on_fail(on_fail(D), Z), A, B), [5, 0, 6, 0], "azbd", 6)
        self.ends(main(on_fail(on_fail(D), Z, Z), A), [5, 8, 9], "azz", 5)
        self.ends(main(on_fail(on_end(D), Z), A, B), [5, 0, 6, 0, 0], "azbzd", 6)

    def test_in_loops_and_conditions(self):
        self.ends(main(on_fail(Z), ("times", 3, A)), [1, 9, 0, 2, 9], "azaaz", 2)
        self.ends(main(("times", 2, seq(A, on_fail(Z)))), [1, 2, 9], "aaz", 0)
        self.ends(main(("while", on_fail(Z), seq(A, ("break", 1))), B), [5, 9, 6, 9], "azbz", 6)
        self.ends(main(("if", ("not", on_fail(Z)), C, A)), [5, 9], "az", 5)
        self.ends(main(("while", A, on_fail(Z)), B), [0, 1, 6, 9], "aabz", 6)

    def test_body_with_loops_and_calls(self):
        body = ("while", Z, ("if", D, ("break", 1), ("next", 1)))
        self.ends(main(on_fail(body), A), [5, 0, 1, 0, 0], "azdzd", 5)
        program = ((("g", ("until", Z, ("return", 3))),), seq(on_fail(("call", "g")), A, B))
        self.ends(program, [5, 1, 0], "azb", 0)
        self.ends(program, [5, 0, 0], "azb", 0)
        # The call in the body is not open any more behind it.
        self.ends(program, [5, 1, 6, 0], "azbz", 6)


class EndTraps(RunTest):
    def test_behind_the_last_tree(self):
        program = main(on_end(Z), A)
        self.asks(program, [5], "a", "z")
        self.ends(program, [5, 6], "az", 5)
        self.ends(program, [0, 6], "az", 0)
        self.ends(main(on_end(Z)), [6], "z", 0)

    def test_behind_exits_and_checks(self):
        self.ends(main(on_end(Z), A, ("exit", None), B), [5, 6], "az", 5)
        self.ends(main(on_end(Z), ("while", A, ("exit", 3)), B), [0, 6], "az", 3)
        self.ends(main(on_end(Z), ("not", seq(A, ("exit", None)))), [5, 6], "az", 5)
        self.ends(main(FAIL_ON, on_end(Z), A, B), [5, 6], "az", 5)
        program = ((("g", seq(A, B)),), seq(FAIL_ON, on_end(Z), ("times", 3, ("call", "g")), C))
        self.ends(program, [0, 5, 6], "abz", 5)
        program = ((("g", ("exit", 4)),), seq(on_end(Z), ("not", ("call", "g")), C))
        self.ends(program, [6], "z", 4)

    def test_body_starts_with_the_end_status(self):
        self.ends(main(on_end(("if", KEEP, Z, D)), A), [0, 9], "az", 0)
        self.ends(main(on_end(("if", KEEP, Z, D)), A), [5, 9], "ad", 5)
        self.ends(main(on_end(("if", KEEP, Z, D)), ("exit", 3)), [9], "d", 3)

    def test_exit_in_the_body(self):
        for number, end in ((None, 5), (0, 0), (9, 9)):
            self.ends(main(on_end(Z, ("exit", number), D), A), [5, 6], "az", end)
            program = ((("g", ("while", Z, ("exit", number))),), seq(on_end(("call", "g"), D), A))
            self.ends(program, [5, 0], "az", end)
            self.ends(main(on_end(("not", ("exit", number))), A), [5], "a", end)
            self.ends(main(on_end(("exit", number)), FAIL_ON, A), [5], "a", end)

    def test_once_in_each_shell(self):
        self.ends(main(on_end(on_end(D), Z), A), [5, 6], "az", 5)
        self.ends(main(on_end(on_end(D), ("exit", 3)), A), [5], "a", 3)
        program = main(on_end(Z), ("sub", seq(on_end(D), on_end(C), A)), B)
        self.ends(program, [1, 2, 3, 4], "acbz", 3)
        inner = ("sub", seq(on_end(D), Z))
        self.ends(main(on_end(inner), A), [5, 6, 7], "azd", 5)

    def test_nothing_is_checked_in_the_body(self):
        self.ends(main(FAIL_ON, on_end(Z, D), A), [5, 6, 7], "azd", 5)
        self.ends(main(FAIL_ON, on_fail(C), on_end(Z, D), A), [0, 6, 7], "azd", 0)
        program = ((("g", seq(Z, D)),), seq(FAIL_ON, on_fail(C), on_end(("call", "g"), B)))
        self.ends(program, [6, 7, 8], "zdb", 0)

    def test_replaced_and_removed(self):
        self.ends(main(on_end(Z), on_end(D), A), [5, 6], "ad", 5)
        self.ends(main(on_end(Z), END_OFF, A), [5], "a", 5)
        self.ends(main(on_end(Z), NO_FAIL, A), [5, 6], "az", 5)
        self.ends(main(on_end(Z), A, END_OFF), [5], "a", 0)
        self.ends(main(("if", A, on_end(Z), on_end(D)), B), [0, 1, 2], "abz", 1)
        self.ends(main(("if", A, on_end(Z), on_end(D)), B), [3, 1, 2], "abd", 1)

    def test_set_within_calls_and_conditions(self):
        program = ((("g", on_end(Z)),), seq(("call", "g"), A))
        self.ends(program, [5, 6], "az", 5)
        self.ends(main(("not", on_end(Z)), A), [5, 6], "az", 5)
        self.ends(main(("while", A, on_end(Z))), [0, 1, 6], "aaz", 0)
        self.ends(main(("while", A, on_end(Z))), [1], "a", 0)

    def test_leaves_all_open_trees(self):
        program = main(on_end(Z), ("while", status(0), ("if", A, ("exit", 3), B)))
        self.ends(program, [0, 0], "az", 3)
        body = ("while", status(0), ("break", 1))
        program = main(on_end(body, Z), ("times", 5, seq(A, ("exit", 3))))
        self.ends(program, [5, 0], "az", 3)

    def test_exit_in_a_function_of_the_body(self):
        program = ((("g", seq(Z, ("exit", None))),), seq(on_end(("call", "g")), status(7)))
        self.ends(program, [2], "z", 7)


class BothTraps(RunTest):
    def test_check_begins_both(self):
        program = main(on_end(Z), on_fail(D), FAIL_ON, A, B)
        self.ends(program, [5, 6, 7], "adz", 5)

    def test_exit_in_a_fail_trap_begins_the_end_trap(self):
        for number, end in ((None, 5), (3, 3), (0, 0)):
            program = main(on_end(Z, ("exit", None)), on_fail(D, ("exit", number)), A, B)
            self.ends(program, [5, 6, 7], "adz", end)
            shown = main(on_end(("if", KEEP, Z, C)), on_fail(D, ("exit", number)), A, B)
            self.ends(shown, [5, 6, 7], "ad" + ("z" if end == 0 else "c"), end)

    def test_end_trap_set_by_a_fail_trap(self):
        self.ends(main(on_fail(on_end(Z)), A, B), [5, 0, 6], "abz", 0)
        self.ends(main(on_fail(on_end(Z), ("exit", 3)), A, B), [5, 6], "az", 3)
        self.ends(main(on_end(Z), on_fail(END_OFF), FAIL_ON, A), [5], "a", 5)

    def test_fail_trap_set_by_an_end_trap_does_nothing(self):
        self.ends(main(on_end(on_fail(D), Z, Z), A), [5, 6, 7], "azz", 5)

    def test_behind_a_fail_trap_exit_means_the_last_status_again(self):
        self.ends(main(on_fail(Z), A, ("or", B, ("exit", None))), [5, 6, 7], "azb", 7)
        self.ends(main(on_fail(Z), A, status(0), ("exit", None)), [5, 6], "az", 0)

    def test_in_subs(self):
        inner = seq(on_end(Z), on_fail(D), A, B)
        program = main(on_fail(C), ("sub", inner), ("exit", 0))
        self.ends(program, [5, 1, 0, 1], "adbz", 0)
        self.ends(program, [5, 1, 6, 1, 1, 1], "adbdzc", 0)
        program = main(on_end(C), pipe(inner, B))
        self.ends(program, [5, 1, 0, 1, 4, 1], "adbzbc", 4)

    def test_examples_of_the_facts(self):
        # A failed command in a checked place within a function, with the option on.
        program = ((("g", A),), seq(FAIL_ON, on_fail(Z), ("call", "g"), B))
        self.ends(program, [5], "a", 5)
        self.ends(main(on_end(Z), A), [0, 3], "az", 0)


if __name__ == "__main__":
    unittest.main()
