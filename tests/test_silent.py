"""The 1001st tree in a row is not begun."""

import unittest

from tests.checking import RunTest
from tests.trees import A, B, FAIL_ON, main, pipe, seq, status


def idle(count):
    """Trees to stand in a seq, `count` of them begun."""
    return [status(0)] * count


class FromTheStart(RunTest):
    def test_ahead_of_a_command(self):
        # The seq and the run are begun, too.
        self.asks(main(*idle(998), A), [], "", "a")
        self.silent(main(*idle(999), A), [], "")
        self.silent(main(*idle(1000), A), [], "")

    def test_ahead_of_the_end(self):
        self.ends(main(*idle(999)), [], "", 0)
        self.silent(main(*idle(1000)), [], "")
        self.silent(main(*idle(2999)), [], "")

    def test_times(self):
        self.ends(main(("times", 999, status(4))), [], "", 4)
        self.silent(main(("times", 1000, status(4))), [], "")
        self.asks(main(("times", 2, seq(*idle(497))), status(0), A), [], "", "a")
        self.silent(main(("times", 2, seq(*idle(497))), *idle(2), A), [], "")

    def test_loops(self):
        for loop in (("while", status(0), status(0)), ("until", status(1), status(0)),
                     ("while", ("next", 1), status(0)), ("while", status(0), ("next", 1)),
                     ("while", ("sub", status(0)), status(3))):
            self.silent(main(loop), [], "")
            self.silent(main(loop), [5, 6], "")

    def test_in_a_function(self):
        call = ("call", "f")
        self.asks(((("f", seq(*idle(997), A)),), call), [], "", "a")
        self.silent(((("f", seq(*idle(998), A)),), call), [], "")
        self.ends(((("f", seq(*idle(998))),), call), [], "", 0)
        self.silent(((("f", seq(*idle(999))),), call), [], "")
        self.ends(((("f", seq(*idle(497))),), seq(call, call, A)), [0], "a", 0)
        self.silent(((("f", seq(*idle(497))),), seq(call, call, status(0), A)), [0], "")

    def test_in_a_sub(self):
        self.asks(main(("sub", seq(*idle(997), A))), [], "", "a")
        self.silent(main(("sub", seq(*idle(998), A))), [], "")
        self.ends(main(("sub", seq(*idle(998)))), [], "", 0)
        self.silent(main(("sub", seq(*idle(999)))), [], "")

    def test_in_parts_of_pipes(self):
        self.asks(main(pipe(seq(*idle(498)), seq(*idle(498), A))), [], "", "a")
        self.silent(main(pipe(seq(*idle(498)), seq(*idle(499), A))), [], "")
        self.silent(main(pipe(seq(*idle(499)), seq(*idle(498), A))), [], "")
        self.ends(main(pipe(*idle(999))), [], "", 0)
        self.silent(main(pipe(*idle(1000))), [], "")

    def test_in_an_end_trap(self):
        def program(count, *more):
            return main(("trap", "end", seq(*idle(count), *more)), status(7))
        self.ends(program(996), [], "", 7)
        self.silent(program(997), [], "")
        self.asks(program(995, A), [], "", "a")
        self.silent(program(996, A), [], "")

    def test_in_a_fail_trap(self):
        def program(count, *more):
            return main(("trap", "fail", seq(*idle(count), *more)), FAIL_ON, status(7))
        self.ends(program(995), [], "", 7)
        self.silent(program(996), [], "")
        self.asks(program(994, A), [], "", "a")
        self.silent(program(995, A), [], "")

    def test_a_trap_body_counts_only_when_it_is_carried_out(self):
        self.asks(main(("trap", "end", seq(*idle(1500))), *idle(997), A), [], "", "a")
        self.silent(main(("trap", "end", seq(*idle(1500))), *idle(998), A), [], "")

    def test_end_of_the_program_comes_first(self):
        self.ends(main(*idle(998), ("exit", 6), status(0)), [], "", 6)
        self.silent(main(*idle(999), ("exit", 6)), [], "")


class BehindAStatus(RunTest):
    def test_the_count_begins_anew(self):
        # The run that was told does not count any more.
        self.asks(main(*idle(998), A, *idle(999), B), [0], "a", "b")
        self.silent(main(A, *idle(1000), B), [0], "a")
        self.ends(main(*idle(998), A, *idle(1000)), [5], "a", 0)
        self.silent(main(A, *idle(1001)), [5], "a")

    def test_each_status(self):
        program = main(A, *idle(999), A, *idle(999), A, *idle(998))
        self.ends(program, [1, 2, 3, 4], "aaa", 0)
        program = main(A, *idle(999), A, *idle(1000), A)
        self.silent(program, [1, 2, 3], "aa")

    def test_in_loops(self):
        # Behind the status of a: the idle seq, its trees, and a again.
        self.asks(main(("while", A, seq(*idle(998)))), [0] * 30, "a" * 30, "a")
        self.silent(main(("while", A, seq(*idle(999)))), [0] * 30, "a")
        self.asks(main(("times", 2, seq(A, *idle(998)))), [0], "a", "a")
        self.silent(main(("times", 2, seq(A, *idle(999)))), [0], "a")

    def test_in_a_function(self):
        self.asks(((("f", seq(A, *idle(999), B)),), ("call", "f")), [0], "a", "b")
        self.silent(((("f", seq(A, *idle(1000), B)),), ("call", "f")), [0], "a")
        self.ends(((("f", seq(A, *idle(1000))),), ("call", "f")), [0], "a", 0)
        self.silent(((("f", seq(A, *idle(1000))),), seq(("call", "f"), status(0))), [0], "a")

    def test_in_new_shells(self):
        self.asks(main(("sub", seq(A, *idle(999), B))), [0], "a", "b")
        self.silent(main(("sub", seq(A, *idle(1000), B))), [0], "a")
        self.ends(main(("sub", seq(A, *idle(1000)))), [0], "a", 0)
        self.silent(main(("sub", seq(A, *idle(1001)))), [0], "a")
        self.asks(main(pipe(A, seq(*idle(998), B))), [0], "a", "b")
        self.silent(main(pipe(A, seq(*idle(999), B))), [0], "a")

    def test_in_traps(self):
        def ending(*parts):
            return main(("trap", "end", seq(*parts)), A)
        self.asks(ending(*idle(998), B), [3], "a", "b")
        self.silent(ending(*idle(999), B), [3], "a")
        self.ends(ending(*idle(999)), [3], "a", 3)
        self.silent(ending(*idle(1000)), [3], "a")
        self.ends(ending(B, *idle(1000)), [3, 4], "ab", 3)

        def failing(*parts):
            return main(("trap", "fail", seq(*parts)), A, status(0))
        self.asks(failing(*idle(998), B), [3], "a", "b")
        self.silent(failing(*idle(999), B), [3], "a")
        self.ends(failing(*idle(998)), [3], "a", 0)
        self.silent(failing(*idle(999)), [3], "a")
        self.silent(failing(B, *idle(1000)), [3, 4], "ab")
        self.ends(failing(B, *idle(999)), [3, 4], "ab", 0)

    def test_used_statuses(self):
        program = main(A, B, ("while", status(0), status(0)))
        self.check(program, [1, 2, 3, 4], "ab", ("silent", 2))


if __name__ == "__main__":
    unittest.main()
