"""What run returns for every kind of tree, checked and tested."""

import copy
import unittest

from shellways.shells import asked_paths, run
from tests.checking import RunTest
from tests.trees import A, B, C, FAIL_OFF, FAIL_ON, PIPES_OFF, PIPES_ON, Z, main, pipe, seq, status


class Examples(RunTest):
    F = ("run", "f")

    def test_option_fail_and_tested_command(self):
        program = main(FAIL_ON, ("and", self.F, A), B)
        self.check(program, [1], "f", ("asks", "b"))
        self.check(program, [0, 1], "fa", ("ended", 1, 2))

    def test_option_fail_and_call(self):
        functions = (("g", ("and", self.F, A)),)
        program = (functions, seq(FAIL_ON, ("call", "g"), B))
        self.check(program, [1, 0], "f", ("ended", 1, 1))
        self.check(program, [0, 0], "fa", ("asks", "b"))

    def test_keep_and_give(self):
        self.check(main(A, ("keep", "x"), B, ("give", "x")), [4, 0], "ab", ("ended", 4, 2))

    def test_end_trap(self):
        program = main(("trap", "end", Z), FAIL_ON, A, B)
        self.check(program, [0, 7, 5], "abz", ("ended", 7, 3))

    def test_fail_trap_behind_call(self):
        program = ((("g", status(3)),), seq(("trap", "fail", Z), ("call", "g")))
        self.check(program, [], "", ("asks", "z"))

    def test_silent(self):
        self.check(main(("while", status(0), status(0))), [], "", ("silent", 0))

    def test_asked_paths(self):
        self.assertEqual(asked_paths(main(("until", A, B)), [1, 0]), [(-1, 0), (-1, 1)])

    def test_examples_of_stage_three(self):
        body = seq(("and", self.F, A), ("return", None))
        program = ((("g", body),), seq(FAIL_ON, ("call", "g"), B))
        self.check(program, [1], "f", ("ended", 1, 1))
        program = main(("times", 3, ("if", A, ("break", 1), None)), B)
        self.check(program, [7, 0], "aa", ("asks", "b"))

    def test_sub_ends_where_and_does_not(self):
        self.ends(main(FAIL_ON, ("sub", ("and", A, B)), C), [3], "a", 3)
        self.check(main(FAIL_ON, ("and", A, B), C), [3], "a", ("asks", "c"))


class Outcomes(RunTest):
    def test_asks(self):
        self.check(main(A), [], "", ("asks", "a"))
        self.check(main(A, B), [9], "a", ("asks", "b"))

    def test_ended_with_unused_statuses(self):
        self.check(main(A), [3], "a", ("ended", 3, 1))
        self.check(main(A), [3, 4, 5], "a", ("ended", 3, 1))
        self.check(main(status(7)), [1, 2], "", ("ended", 7, 0))
        self.check(main(("exit", None)), [], "", ("ended", 0, 0))

    def test_silent_with_unused_statuses(self):
        program = main(A, ("until", status(1), status(0)))
        self.check(program, [], "", ("asks", "a"))
        self.check(program, [0], "a", ("silent", 1))
        self.check(program, [2, 3, 4], "a", ("silent", 1))

    def test_statuses_of_many_digits(self):
        huge = 10 ** 6000 + 7
        self.ends(main(A), [huge], "a", huge)
        self.ends(main(A, ("keep", "x"), B, ("give", "x")), [huge, 1], "ab", huge)
        self.ends(main(FAIL_ON, ("trap", "end", Z), A, B), [huge, huge + 1], "az", huge)
        self.ends(main(("not", A)), [huge], "a", 0)
        self.ends(main(PIPES_ON, pipe(A, B)), [huge, 0], "ab", huge)
        self.ends(main(A, ("keep", "x"), ("zero", "x")), [huge], "a", 1)

    def test_statuses_above_255_stay(self):
        self.ends(main(A), [256], "a", 256)
        self.ends(main(("sub", ("seq", (A, ("exit", None))))), [1000], "a", 1000)

    def test_rows_as_lists_and_tuples(self):
        program = main(A, B)
        for row in ([1, 2], (1, 2)):
            self.check(program, row, "ab", ("ended", 2, 2))
        for row in ([], ()):
            self.check(program, row, "", ("asks", "a"))
        self.assertEqual(asked_paths(program, (1, 2)), asked_paths(program, [1, 2]))

    def test_keywords(self):
        self.assertEqual(run(program=main(A), row=[2]), (["a"], ("ended", 2, 1)))
        self.assertEqual(run(row=[2], program=main(A)), (["a"], ("ended", 2, 1)))
        self.assertEqual(asked_paths(row=[2], program=main(A)), [(-1,)])

    def test_row_that_grows_is_read_anew(self):
        program, row = main(A, B), []
        self.check(program, row, "", ("asks", "a"))
        row.append(5)
        self.check(program, row, "a", ("asks", "b"))
        row.append(6)
        self.check(program, row, "ab", ("ended", 6, 2))
        row[1] = 0
        self.check(program, row, "ab", ("ended", 0, 2))

    def test_nothing_changes(self):
        program = ((("g", seq(A, ("put", "x", 4))),), seq(FAIL_ON, ("sub", ("call", "g")), B))
        row = [0, 5]
        before = copy.deepcopy((program, row))
        first = run(program, row)
        asked_paths(program, row)
        self.assertEqual((program, row), before)
        first[0].append("more")
        self.assertEqual(run(program, row), (["a", "b"], ("ended", 5, 2)))


class Kinds(RunTest):
    def test_first_shell(self):
        self.ends(main(("give", "x")), [], "", 0)
        self.ends(main(("zero", "x")), [], "", 0)
        self.ends(main(("keep", "x"), ("give", "x")), [], "", 0)
        self.ends(main(A, ("sub", ("exit", None))), [4], "a", 4)
        self.ends(main(status(3), A, B), [4, 0], "ab", 0)
        self.ends(main(pipe(A, B)), [4, 0], "ab", 0)

    def test_statuses_and_variables(self):
        self.ends(main(status(3)), [], "", 3)
        self.ends(main(status(3), status(0)), [], "", 0)
        self.ends(main(("put", "x", 9)), [], "", 0)
        self.ends(main(("put", "x", 9), ("give", "x")), [], "", 9)
        self.ends(main(("put", "x", 9), ("zero", "x")), [], "", 1)
        self.ends(main(("put", "x", 9), ("zero", "y")), [], "", 0)
        self.ends(main(("put", "x", 9), ("put", "x", 0), ("zero", "x")), [], "", 0)
        self.ends(main(A, ("keep", "x"), ("keep", "x"), ("give", "x")), [5], "a", 0)
        self.ends(main(A, ("keep", "x"), B, ("keep", "y"), ("give", "x")), [5, 6], "ab", 5)
        self.ends(main(A, ("keep", "a"), ("give", "a")), [5], "a", 5)

    def test_settings_set_the_last_status(self):
        for tree in (("keep", "x"), ("put", "x", 7), FAIL_OFF, PIPES_ON, ("trap", "end", None),
                     ("trap", "fail", Z)):
            self.ends(main(A, tree), [5], "a", 0)

    def test_and_or(self):
        self.ends(main(("and", A, B)), [5], "a", 5)
        self.ends(main(("and", A, B)), [0, 6], "ab", 6)
        self.ends(main(("or", A, B)), [0], "a", 0)
        self.ends(main(("or", A, B)), [5, 6], "ab", 6)
        self.ends(main(("or", A, B)), [5, 0], "ab", 0)
        both = main(("or", ("and", A, B), C))
        self.ends(both, [0, 0], "ab", 0)
        self.ends(both, [0, 1, 2], "abc", 2)
        self.ends(both, [1, 0], "ac", 0)

    def test_second_part_starts_with_the_status_of_the_first(self):
        for word, told in (("and", 0), ("or", 8)):
            self.ends(main((word, A, seq(("keep", "x"), ("give", "x")))), [told], "a", told)

    def test_not(self):
        self.ends(main(("not", A)), [0], "a", 1)
        self.ends(main(("not", A)), [77], "a", 0)
        self.ends(main(("not", ("not", A))), [77], "a", 1)

    def test_if(self):
        self.ends(main(("if", A, B, C)), [0, 5], "ab", 5)
        self.ends(main(("if", A, B, C)), [4, 5], "ac", 5)
        self.ends(main(("if", A, B, None)), [0, 5], "ab", 5)
        self.ends(main(("if", A, B, None)), [4], "a", 0)
        kept = seq(("keep", "x"), ("give", "x"))
        self.ends(main(("if", A, B, kept)), [4], "a", 4)

    def test_while_and_until(self):
        self.ends(main(("while", A, B)), [4], "a", 0)
        self.ends(main(("while", A, B)), [0, 5, 4], "aba", 5)
        self.ends(main(("while", A, B)), [0, 5, 0, 0, 4], "ababa", 0)
        self.ends(main(("until", A, B)), [0], "a", 0)
        self.ends(main(("until", A, B)), [4, 5, 0], "aba", 5)
        self.check(main(("until", A, B)), [4, 5, 6], "aba", ("asks", "b"))
        keeping = main(("until", A, ("keep", "x")), ("give", "x"))
        self.ends(keeping, [4, 6, 0], "aaa", 6)

    def test_condition_starts_with_the_status_of_the_body(self):
        self.check(main(("while", ("if", seq(("keep", "x"), ("zero", "x")), status(0), C), A)),
                   [0], "a", ("asks", "a"))
        self.check(main(("while", ("if", seq(("keep", "x"), ("zero", "x")), status(0), C), A)),
                   [6], "a", ("asks", "c"))

    def test_times(self):
        self.ends(main(A, ("times", 0, B)), [5], "a", 0)
        self.ends(main(("times", 1, B)), [5], "b", 5)
        self.ends(main(("times", 3, B)), [5, 6, 7], "bbb", 7)
        self.ends(main(("times", 2, ("times", 2, B))), [1, 2, 3, 0], "bbbb", 0)
        self.ends(main(A, ("times", 1, seq(("keep", "x"), ("give", "x")))), [5], "a", 5)

    def test_sub(self):
        self.ends(main(("sub", A)), [5], "a", 5)
        self.ends(main(A, ("sub", ("keep", "x")), ("give", "x")), [5], "a", 0)
        self.ends(main(A, ("keep", "x"), ("sub", ("give", "x"))), [5], "a", 5)
        self.check(main(("sub", ("exit", 4)), A), [], "", ("asks", "a"))
        self.ends(main(A, ("sub", ("exit", None))), [6], "a", 6)

    def test_pipe(self):
        self.ends(main(pipe(A, B, C)), [1, 2, 0], "abc", 0)
        self.ends(main(pipe(A, B, C)), [0, 0, 3], "abc", 3)
        self.ends(main(PIPES_ON, pipe(A, B, C)), [1, 2, 0], "abc", 2)
        self.ends(main(PIPES_ON, pipe(A, B, C)), [1, 0, 0], "abc", 1)
        self.ends(main(PIPES_ON, pipe(A, B, C)), [1, 0, 3], "abc", 3)
        self.ends(main(PIPES_ON, pipe(A, B, C)), [0, 0, 0], "abc", 0)
        self.ends(main(PIPES_ON, PIPES_OFF, pipe(A, B)), [1, 0], "ab", 0)

    def test_parts_of_a_pipe_start_with_the_status_before_it(self):
        part = seq(("keep", "x"), ("give", "x"), ("exit", None))
        self.ends(main(A, PIPES_ON, A, pipe(part, part)), [3, 8], "aa", 8)
        self.ends(main(A, pipe(("exit", 3), ("exit", None))), [8], "a", 8)
        self.ends(main(pipe(A, ("exit", None))), [8], "a", 0)

    def test_one_name_for_a_function_a_variable_and_a_command(self):
        program = ((("a", seq(A, ("keep", "a"))),), seq(("call", "a"), B, ("give", "a")))
        self.ends(program, [6, 1], "ab", 6)


class CheckedAndTested(RunTest):
    # Trees that end with the status 5 behind a check, with what they ask for.
    FUNCTIONS = (("five", status(5)), ("asks", ("or", A, ("not", status(0)))),
                 ("leaves", ("return", 5)))
    FAILING = (
        (A, [5]), (status(5), []), (("give", "five"), []), (("call", "leaves"), []),
        (("sub", ("exit", 5)), []), (("sub", ("and", A, B)), [5]), (pipe(status(0), A), [5]),
        (pipe(status(0), ("exit", 5)), []),
    )

    def outcome(self, row, *parts):
        program = (self.FUNCTIONS, seq(("put", "five", 5), *parts))
        return run(program, row + [0] * 5)[1]

    def test_without_the_option_all_go_on(self):
        for tree, row in self.FAILING:
            self.assertEqual(self.outcome(row, tree, C, ("exit", 77)), ("ended", 77, len(row) + 1))

    def test_checked_in_main(self):
        for tree, row in self.FAILING:
            self.assertEqual(self.outcome(row, FAIL_ON, tree, C), ("ended", 5, len(row)))

    def test_zero_is_checked(self):
        self.assertEqual(self.outcome([], FAIL_ON, ("zero", "five"), C), ("ended", 1, 0))
        goes_on = self.outcome([], FAIL_ON, ("zero", "other"), C, status(77))
        self.assertEqual(goes_on, ("ended", 77, 1))
        tested = self.outcome([], FAIL_ON, ("and", ("zero", "five"), C), C, status(77))
        self.assertEqual(tested, ("ended", 77, 1))

    def test_checked_parts(self):
        wraps = (
            lambda tree: seq(tree, C), lambda tree: ("and", status(0), seq(tree, C)),
            lambda tree: ("or", status(3), seq(tree, C)), lambda tree: ("if", status(0), tree, C),
            lambda tree: ("if", status(1), C, tree), lambda tree: ("while", status(0), tree),
            lambda tree: ("until", status(1), tree), lambda tree: ("times", 2, tree),
            lambda tree: ("sub", seq(tree, C)), lambda tree: pipe(C, seq(tree, C)),
        )
        for number, wrap in enumerate(wraps):
            for tree, row in self.FAILING:
                before = [0] if number == 9 else []
                outcome = self.outcome(before + row, FAIL_ON, wrap(tree), C)
                self.assertEqual(outcome, ("ended", 5, len(before + row)), (number, tree))

    def test_tested_parts(self):
        wraps = (
            lambda tree: ("and", tree, C), lambda tree: ("or", tree, status(0)),
            lambda tree: ("not", tree), lambda tree: ("if", tree, C, None),
            lambda tree: ("if", tree, C, status(0)), lambda tree: ("while", tree, C),
            lambda tree: ("until", seq(tree, status(0)), C),
            lambda tree: ("not", seq(tree, status(1))),
            lambda tree: ("not", ("times", 1, tree)), lambda tree: ("not", ("sub", tree)),
            lambda tree: ("not", pipe(status(0), tree)),
            lambda tree: ("if", ("while", status(0), seq(tree, ("break", 1))), status(0), None),
        )
        for wrap in wraps:
            for tree, row in self.FAILING:
                outcome = self.outcome(row, FAIL_ON, wrap(tree), B, ("exit", 77))
                self.assertEqual(outcome, ("ended", 77, len(row) + 1), wrap(tree))

    def test_in_functions(self):
        for tree, row in self.FAILING:
            functions = self.FUNCTIONS + (("g", seq(tree, C)),)
            for main_tree, outcome in (
                    (("call", "g"), ("ended", 5, len(row))),
                    (("sub", ("call", "g")), ("ended", 5, len(row))),
                    (seq(("and", ("call", "g"), status(0)), ("exit", 77)),
                     ("ended", 77, len(row) + 1)),
                    (seq(("not", ("sub", ("call", "g"))), ("exit", 77)),
                     ("ended", 77, len(row) + 1))):
                program = (functions, seq(("put", "five", 5), FAIL_ON, main_tree))
                self.assertEqual(run(program, row + [0] * 5)[1], outcome, (tree, main_tree))

    def test_in_trap_bodies(self):
        for kind in ("end", "fail"):
            for tree, row in self.FAILING:
                outcome = self.outcome(row, FAIL_ON, ("trap", kind, seq(tree, C)), status(9), B)
                self.assertEqual(outcome, ("ended", 9, len(row) + 1), (kind, tree))

    def test_no_check_behind_other_trees(self):
        for tree in (("not", status(0)), ("and", status(4), B),
                     ("if", status(0), ("not", status(0)), None),
                     ("times", 2, ("not", status(0))), seq(status(0), ("not", status(0)))):
            outcome = self.outcome([], FAIL_ON, tree, C, ("exit", 77))
            self.assertEqual(outcome, ("ended", 77, 1), tree)

    def test_option_can_be_set_off(self):
        self.ends(main(FAIL_ON, FAIL_OFF, A, B), [5, 6], "ab", 6)
        self.ends(main(FAIL_ON, PIPES_OFF, A, B), [5], "a", 5)

    def test_and_or_lists_with_the_option(self):
        program = main(FAIL_ON, ("and", A, B), C)
        self.check(program, [5], "a", ("asks", "c"))
        self.ends(program, [0, 5], "ab", 5)
        program = main(FAIL_ON, ("or", ("and", A, B), Z), C)
        self.check(program, [0, 5], "ab", ("asks", "z"))
        self.ends(program, [0, 5, 6], "abz", 6)

    def test_call_whose_body_is_tested_in_one_place(self):
        program = ((("g", seq(A, B)),), seq(FAIL_ON, ("if", ("call", "g"), C, None), ("call", "g")))
        self.check(program, [5, 0], "ab", ("asks", "c"))
        self.ends(program, [5, 6, 7], "aba", 7)


if __name__ == "__main__":
    unittest.main()
