"""Live shells: step by step, back, copies, equality, texts, and futures."""

import random
import unittest

from shellways.alike import alike
from shellways.errors import Ended, InvalidNumber, InvalidProgram, Mismatch, TooLarge
from shellways.live import Live, same_future
from shellways.shells import asked_paths, run
from shellways.texts import read_program
from tests.follow import small_samples
from tests.trees import A, B, main, seq, status
from tests.wrong import NO_PROGRAMS, assert_error

AND = main(("and", ("run", "f"), A))
KEEP = main(A, ("keep", "x"), B, ("give", "x"))
SILENT = main(A, ("while", status(0), status(0)))
NO_STATUSES = (None, True, False, -1, "0", b"0", [0], (0,), {}, 1j, object(), Ended(3))


def live_behind(program, row):
    live = Live(program)
    for value in row:
        live.tell(value)
    return live


class Lives(unittest.TestCase):
    def test_examples(self):
        live = Live(AND)
        self.assertIsNone(live.tell(0))
        self.assertEqual([live.command(), live.outcome(), str(live)], ["a", ("asks", "a"), "f:0 asks a"])
        live = Live(main(A))
        live.tell(3)
        assert_error(self, Ended, 3, live.tell, 0)

    def check(self, live, program, row):
        names, outcome = run(program, row)
        self.assertEqual([live.outcome(), live.told(), len(live)], [outcome, row, len(row)])
        self.assertEqual(live.command(), outcome[1] if outcome[0] == "asks" else None)
        words = [f"{name}:{value}" for name, value in zip(names, row)]
        words.append("silent" if outcome[0] == "silent" else f"{outcome[0]} {outcome[1]}")
        self.assertEqual(str(live), " ".join(words))
        if outcome[0] == "asks":
            self.assertEqual(live.command_path(), asked_paths(program, row + [0])[-1])
        else:
            self.assertIsNone(live.command_path())
            expected = outcome[1] if outcome[0] == "ended" else None
            assert_error(self, Ended, expected, live.tell, 0)
        for value in NO_STATUSES:
            assert_error(self, InvalidNumber, "status", live.tell, value)
        self.assertEqual(live.told(), row)

    def test_each_question_alone(self):
        questions = (lambda live: live.command(), lambda live: live.command_path(), lambda live: live.outcome(),
                     lambda live: live.told(), len, str)
        answers = ("a", (-1, 1), ("asks", "a"), [0], 1, "f:0 asks a")
        for question, answer in zip(questions, answers):
            self.assertEqual(question(live_behind(AND, [0])), answer)
            live = live_behind(AND, [0])
            for _ in range(2):
                for other, expected in zip(questions[::-1], answers[::-1]):
                    self.assertEqual(other(live), expected)
                self.assertEqual(question(live), answer)

    def test_samples(self):
        chance = random.Random(7)
        for program in small_samples(range(120), sizes=(5, 12, 20, 30), most=200):
            live, row = Live(program), []
            for _ in range(12):
                self.check(live, program, row)
                if live.command() is not None and chance.random() < 0.75:
                    row.append(chance.choice((0, 0, 0, 1, 5, 7, 300)))
                    self.assertIsNone(live.tell(row[-1]))
                else:
                    count = chance.randrange(len(row) + 1)
                    self.assertIsNone(live.back(count))
                    row = row[:len(row) - count]

    def test_programs_that_ask_nothing(self):
        for program, outcome, text in ((main(status(4)), ("ended", 4, 0), "ended 4"), (main(("while", status(0), status(0))), ("silent", 0), "silent")):
            live = Live(program)
            self.assertEqual([live.outcome(), str(live), len(live), live.told(), live.command()], [outcome, text, 0, [], None])
            self.assertIsNone(live.back(0))
            assert_error(self, InvalidNumber, "count", live.back, 1)
            assert_error(self, Ended, outcome[1] if len(outcome) == 3 else None, live.tell, 7)

    def test_wrong_counts(self):
        live = live_behind(AND, [0, 5])
        for value in (None, True, False, -1, 3, "1", [1], 1j, (1,), object(), 10 ** 30):
            assert_error(self, InvalidNumber, "count", live.back, value)
        self.assertEqual(live.told(), [0, 5])
        live.back(count=2)
        self.assertEqual([live.told(), str(live)], [[], "asks f"])
        live.tell(status=4)
        self.assertEqual(str(live), "f:4 ended 4")
        live.back(1)
        live.back(0)
        self.assertEqual(live, Live(AND))

    def test_silent_programs(self):
        live = Live(SILENT)
        live.tell(0)
        self.assertEqual([live.outcome(), str(live), live.command(), live.command_path()], [("silent", 1), "a:0 silent", None, None])
        assert_error(self, Ended, None, live.tell, 0)
        assert_error(self, InvalidNumber, "status", live.tell, -1)
        live.back(1)
        self.assertEqual(live.command(), "a")

    def test_told_is_new(self):
        live = live_behind(AND, [0])
        live.told().append(5)
        self.assertEqual(live.told(), [0])
        self.assertIsNot(live.told(), live.told())

    def test_copies_change_independently(self):
        live = live_behind(KEEP, [4])
        copy = live.copied()
        self.assertEqual([type(copy), copy == live, copy is live], [Live, True, False])
        copy.tell(0)
        self.assertEqual([str(live), str(copy), live == copy], ["a:4 asks b", "a:4 b:0 ended 4", False])
        live.tell(7)
        self.assertEqual([live.told(), copy.told()], [[4, 7], [4, 0]])
        live.back(2)
        live.tell(0)
        live.tell(0)
        self.assertEqual([live.outcome(), copy.outcome()], [("ended", 0, 2), ("ended", 4, 2)])
        third = copy.copied()
        third.back(2)
        self.assertEqual([len(third), len(copy)], [0, 2])
        for program in small_samples(range(40)):
            live = Live(program)
            if live.command() is not None:
                first, second = live.copied(), live.copied()
                first.tell(3)
                second.tell(0)
                self.assertEqual([str(live), first.told(), second.told()], [str(Live(program)), [3], [0]])
                second.back(1)
                second.tell(3)
                self.assertEqual([first == second, str(first)], [True, str(second)])

    def test_equal_lives(self):
        self.assertTrue(Live(AND) == Live(main(("and", ("run", "f"), A))))
        self.assertFalse(Live(AND) != Live(AND))
        self.assertFalse(Live(AND) == Live(KEEP))
        self.assertTrue(live_behind(AND, [0]) == live_behind(AND, [0]))
        self.assertFalse(live_behind(AND, [0]) == Live(AND))
        self.assertTrue(live_behind(AND, [3]) != live_behind(AND, [4]))
        # Programs and rows count, not what comes behind them.
        self.assertFalse(Live(main(A)) == Live(main(("sub", A))))
        for value in (None, 0, True, "", (), [], {}, AND, str(Live(AND)), object(), b"", Ended(1), Live):
            self.assertFalse(Live(AND) == value)
            self.assertFalse(value == Live(AND))
            self.assertTrue(Live(AND) != value)

    def test_long_numbers(self):
        live = Live(main(A, B))
        live.tell(10 ** 1000 - 1)
        self.assertEqual(str(live), "a:" + "9" * 1000 + " asks b")
        live.tell(7)
        self.assertEqual(str(live), "a:" + "9" * 1000 + " b:7 ended 7")
        for value in (10 ** 1000, 10 ** 1001, 10 ** 6000, 2 ** 3400):
            live = Live(main(A, B))
            live.tell(value)
            assert_error(self, TooLarge, 1000, str, live)
            self.assertEqual([live.told(), live.outcome()], [[value], ("asks", "b")])
            live.tell(value)
            assert_error(self, TooLarge, 1000, str, live)
            self.assertEqual(live.outcome(), ("ended", value, 2))
            live.back(2)
            self.assertEqual(str(live), "asks a")

    def test_hundreds_of_statuses(self):
        program = read_program("while a do keep x ; b ; keep y ; times 3 do c || d end end")
        live, row = Live(program), []
        chance = random.Random(1)
        for count in range(800):
            live.tell(0 if live.command() == "a" else chance.choice((0, 3)))
            row = live.told()
            if count % 97 == 0:
                self.assertEqual(live.outcome(), run(program, row)[1])
        for _ in range(400):
            live.back(1)
            live.copied().back(2)
        self.assertEqual([live.told(), live.outcome()], [row[:400], run(program, row[:400])[1]])
        for _ in range(300):
            live.back(1)
            live.tell(row[399])
        self.assertEqual(str(live).count(":"), 400)

    def test_invalid_programs(self):
        for program, path in NO_PROGRAMS:
            assert_error(self, InvalidProgram, path, Live, program)
        self.assertEqual(str(Live(program=AND)), "asks f")


class Futures(unittest.TestCase):
    def test_example(self):
        one, other = Live(KEEP), Live(KEEP)
        one.tell(3)
        other.tell(4)
        self.assertIs(same_future(one, other), False)

    def both(self, one, other, expected):
        self.assertIs(same_future(one, other), expected)
        self.assertIs(same_future(other, one), expected)
        self.assertIs(same_future(live=one, other=other), expected)

    def test_numbers_that_are_held(self):
        for row, other, expected in (([3], [3], True), ([3], [4], False), ([3], [0], False), ([0], [0], True), ([3, 0], [3, 7], True),
                                     ([3, 0], [4, 0], False), ([0, 5], [0, 0], True), ([3], [3, 0], False)):
            self.both(live_behind(KEEP, row), live_behind(KEEP, other), expected)

    def test_numbers_of_programs(self):
        three = main(A, B, status(3))
        self.both(live_behind(KEEP, [3]), live_behind(three, [0]), True)
        self.both(live_behind(KEEP, [4]), live_behind(three, [0]), False)
        self.both(live_behind(KEEP, [3, 0]), live_behind(main(("exit", 3)), []), True)
        self.both(live_behind(main(A), [3]), Live(main(status(3))), True)
        self.both(live_behind(main(A), [300]), Live(main(status(3))), False)
        self.both(Live(main(status(0))), live_behind(main(A), [0]), True)

    def test_failures_that_are_told_later(self):
        # A failure that is told from now on is not always the one that is held.
        again = main(A, ("keep", "x"), ("or", B, ("give", "x")))
        told = main(A, ("or", B, status(0)))
        self.both(live_behind(again, [3]), live_behind(main(A, B), [3]), False)
        self.both(live_behind(again, [0]), live_behind(told, [3]), True)
        self.both(Live(main(A)), Live(main(("sub", A))), True)
        self.both(Live(KEEP), Live(main(A, ("keep", "y"), B, ("give", "y"))), True)
        self.both(Live(KEEP), Live(main(A, B)), False)

    def test_held_statuses_that_matter_no_more(self):
        program = main(A, ("keep", "x"), B, ("keep", "x"), A, ("give", "x"))
        self.both(live_behind(program, [3]), live_behind(program, [4]), True)
        self.both(live_behind(program, [3, 5]), live_behind(program, [4, 5]), True)
        self.both(live_behind(program, [3, 5]), live_behind(program, [3, 4]), False)
        two = main(A, ("keep", "x"), B, ("keep", "y"), A, ("if", ("zero", "x"), ("give", "y"), status(1)))
        self.both(live_behind(two, [3, 5]), live_behind(two, [4, 6]), True)
        self.both(live_behind(two, [0, 5]), live_behind(two, [0, 6]), False)

    def test_ended_and_silent(self):
        ended, silent = live_behind(main(A), [3]), live_behind(SILENT, [0])
        self.both(ended, live_behind(AND, [3]), True)
        self.both(ended, live_behind(AND, [4]), False)
        self.both(ended, silent, False)
        self.both(silent, live_behind(SILENT, [9]), True)
        self.both(silent, Live(main(("while", status(0), status(0)))), True)
        self.both(silent, Live(SILENT), False)
        self.both(ended, Live(main(A)), False)

    def test_lives_do_not_change(self):
        one, other = live_behind(KEEP, [7]), live_behind(KEEP, [7])
        for _ in range(3):
            self.both(one, other, True)
            self.assertEqual([str(one), one.outcome(), one == other], ["a:7 asks b", ("asks", "b"), True])
        one.tell(5)
        self.assertEqual(one.outcome(), ("ended", 7, 2))
        self.both(one, one, True)
        self.assertEqual(str(one), "a:7 b:5 ended 7")

    def test_samples(self):
        chance = random.Random(11)
        found = {True: 0, False: 0, None: 0}
        for program in small_samples(range(200), most=25):
            lives = []
            for _ in range(4):
                live = Live(program)
                for _ in range(chance.randrange(4)):
                    if live.command() is not None:
                        live.tell(chance.choice((0, 3, 4)))
                lives.append(live)
            for one in lives:
                for other in lives:
                    expected = self.short_futures(one, other, program)
                    if expected is not None:
                        self.assertIs(same_future(one, other), expected, (program, one.told(), other.told()))
                    found[expected] += 1
        self.assertGreater(min(found[True], found[False]), 200)

    def short_futures(self, one, other, program):
        """Whether both do the same; None if this cannot be seen by short rows."""
        rows, same = [[]], True
        while rows:
            row = rows.pop()
            results = []
            for live in (one, other):
                names, outcome = run(program, live.told() + row)
                results.append((names[len(live):], outcome[:-1] if outcome[0] != "asks" else outcome, len(names) - len(live)))
            if results[0] != results[1]:
                return False
            if results[0][1][0] == "asks":
                if len(row) == 5:
                    same = None
                else:
                    rows += [row + [0], row + [1000 + len(row)]] + ([row + [3]] if len(row) < 2 else [])
        return same

    def test_programs_from_their_starts(self):
        programs = list(small_samples(range(40), most=20))
        for one, other in zip(programs, programs[1:]):
            self.assertIs(same_future(Live(one), Live(other)), alike(one, other))
            self.assertIs(same_future(Live(one), Live((one[0], seq(one[1], ("exit", None))))),
                          alike(one, (one[0], seq(one[1], ("exit", None)))))

    def test_errors(self):
        for value in (None, 3, "live", AND, [], {}, object(), Live, Ended(0)):
            assert_error(self, Mismatch, "live", same_future, value, value)
            assert_error(self, Mismatch, "live", same_future, value, Live(AND))
            assert_error(self, Mismatch, "other", same_future, Live(AND), value)

    def test_two_thousand_pairs(self):
        for more, fits in (("", True), ("a ; ", True), ("a ; a ; ", True), ("a ; a ; a ; ", False)):
            text = "times 665 do a ; b ; a end ; " + more
            one, other = Live(read_program(text + "c")), Live(read_program(text + "( c )"))
            if not fits:
                assert_error(self, TooLarge, 2000, same_future, one, other)
                assert_error(self, TooLarge, 2000, alike, read_program(text + "c"), read_program(text + "( c )"))
                # Statuses told so far count no more.
                one.tell(0)
                other.tell(7)
            self.both(one, other, True)


if __name__ == "__main__":
    unittest.main()
