"""Logs: which lines can be, lost lines, explanations."""

import itertools
import random
import unittest

from shellways.errors import InvalidLog, InvalidProgram, Mismatch, TooLarge
from shellways.live import Live
from shellways.logs import explained, explains, explanations, fits, lost, sure
from shellways.shells import run
from shellways.texts import read_program
from tests.follow import small_samples
from tests.trees import A, B, main, status
from tests.wrong import NO_PROGRAMS, assert_error

AND = main(("and", A, B))
LARGE = read_program("times 500 do a ; b end")
FUNCTIONS = (fits, lost, explained, explanations, sure)
MORE = 3


def runs_up_to(program, length):
    """All runs as tuples (names, row of 0 and 1, outcome); each failure is told another number."""
    rows = [[]]
    while rows:
        row = rows.pop()
        names, outcome = run(program, [1000 + k if bit else 0 for k, bit in enumerate(row)])
        yield names, row, outcome
        if outcome[0] == "asks" and len(row) < length:
            rows += [row + [0], row + [1]]


def explanations_of(runs, log, outcome):
    """Yields (kept places, run, statuses) of all explanations among these runs; any failure that can be told is 0.5."""
    for names, row, end in runs:
        for kept in itertools.combinations(range(len(row)), len(log)):
            told = [0 if not bit else None for bit in row]
            good = True
            for place, (name, value) in zip(kept, log):
                if names[place] != name or (value is not None and (value != 0) != bool(row[place])):
                    good = False
                    break
                if row[place] and value is not None:
                    told[place] = value
            if good and has_outcome(end, told, outcome):
                yield kept, names, row


def has_outcome(end, told, outcome):
    if outcome is None:
        return True
    if outcome[0] == "asks":
        return end[0] == "asks"
    if end[0] != "ended":
        return False
    if outcome[1] is None:
        return True
    if end[1] < 1000:
        return end[1] == outcome[1]
    value = told[end[1] - 1000]
    # None is a failure that was not written down.
    return outcome[1] > 0 and value in (None, outcome[1])


def sampled_log(chance, program):
    """A log of a run, with some lines lost, some statuses not written down, or something else."""
    row = [chance.choice((0, 0, 3, 5, 9)) for _ in range(chance.randrange(5))]
    names, outcome = run(program, row)
    lines = [(name, value) for name, value in zip(names, row)]
    lines = [line for line in lines if chance.random() < 0.75]
    lines = [(name, None if chance.random() < 0.4 else value) for name, value in lines]
    if lines and chance.random() < 0.2:
        lines[chance.randrange(len(lines))] = (chance.choice("abcq"), chance.choice((0, 3, None)))
    ends = [None, ("asks",), ("ended", None), ("ended", 0), ("ended", 3), ("ended", 5), ("ended", 77)]
    if outcome[0] == "ended":
        ends += [outcome[:2]] * 8
    return lines[:4], chance.choice(ends)


class Samples(unittest.TestCase):
    def test_against_all_runs(self):
        chance = random.Random(2)
        found_lost = {}
        for program in small_samples(range(250), most=30):
            for _ in range(3):
                log, outcome = sampled_log(chance, program)
                runs = list(runs_up_to(program, len(log) + MORE))
                found = list(explanations_of(runs, log, outcome))
                self.check(program, log, outcome, found)
                many = lost(program, log, outcome)
                found_lost[many] = found_lost.get(many, 0) + 1
                self.assertEqual(fits(program, log, outcome), self.plain_fits(runs, log, outcome), (program, log, outcome))
        for many in (None, 0, 1, 2, 3):
            self.assertGreater(found_lost[many], 10)

    def plain_fits(self, runs, log, outcome):
        for many in range(len(log)):
            if not any(len(names) == many + 1 for _, names, _ in explanations_of(runs, log[:many + 1], None)):
                return many
        return None if any(len(names) == len(log) for _, names, _ in explanations_of(runs, log, outcome)) else len(log)

    def check(self, program, log, outcome, found):
        many = lost(program, log, outcome)
        case = (program, log, outcome)
        if not found:
            self.assertTrue(many is None or many > MORE, case)
        else:
            least = min(len(row) for _, _, row in found) - len(log)
            self.assertEqual(many, least, case)
            best = [entry for entry in found if len(entry[2]) == len(log) + least]
            self.assertEqual(explanations(program, log, outcome), len(best), case)
            words = []
            for place in range(len(log)):
                seen = {row[kept[place]] for kept, _, row in best}
                words.append("open" if len(seen) == 2 else "failed" if 1 in seen else "well")
            self.assertEqual(sure(program, log, outcome), words, case)
        thing = explained(program, log, outcome)
        if many is None:
            self.assertEqual([thing, explanations(program, log, outcome), sure(program, log, outcome)], [None, 0, None])
            self.assertIs(explains(program, log, outcome, []), False)
        else:
            self.assertEqual(type(thing), list)
            self.assertTrue(is_explanation(program, log, outcome, thing), (case, thing))
            self.assertEqual(len(thing), len(log) + many)
            self.check_changed(program, log, outcome, thing, many)

    def check_changed(self, program, log, outcome, thing, many):
        for other in changed(thing):
            expected = is_explanation(program, log, outcome, other) and len(other) == len(log) + many
            self.assertIs(explains(program, log, outcome, other), expected, (program, log, outcome, other))
        self.assertIs(explains(program, tuple(log), outcome, thing), True)


def is_explanation(program, log, outcome, thing):
    """The words of the document, by run."""
    if type(thing) is not list:
        return False
    for line in thing:
        if type(line) is not tuple or len(line) != 3 or type(line[1]) is not int or line[1] < 0 or type(line[2]) is not bool:
            return False
    names, end = run(program, [line[1] for line in thing])
    if names != [line[0] for line in thing]:
        return False
    kept = [line for line in thing if line[2]]
    if len(kept) != len(log):
        return False
    for line, (name, value) in zip(kept, log):
        if line[0] != name or value not in (None, line[1]):
            return False
    if outcome is None:
        return True
    return end[0] == "asks" if outcome == ("asks",) else end[0] == "ended" and outcome[1] in (None, end[1])


def changed(thing):
    yield thing
    yield tuple(thing)
    yield thing + [("a", 0, False)]
    yield thing[1:]
    for k, (name, value, kept) in enumerate(thing):
        for line in ((name, value, not kept), (name, 0, kept), (name, 4, kept), (name, 3, kept), ("b", value, kept), (name, -1, kept),
                     (name, bool(value), kept), (name, None, kept), [name, value, kept], (name, value), (name, value, int(kept)), None,
                     (None, value, kept), (name, str(value), kept)):
            yield thing[:k] + [line] + thing[k + 1:]
        if k:
            yield thing[:k - 1] + [thing[k], thing[k - 1]] + thing[k + 1:]


class Logs(unittest.TestCase):
    def test_examples(self):
        self.assertEqual(fits(AND, [("a", None), ("b", 4)], ("ended", 0)), 2)
        self.assertEqual([lost(AND, [("b", None)], ("ended", 0)), explanations(AND, [("b", None)], None),
                          sure(AND, [("b", None)], ("ended", 0))], [1, 2, ["well"]])

    def test_fits(self):
        for log, outcome, expected in (
                ([], None, None), ([], ("asks",), None), ([], ("ended", None), 0), ([("a", 0)], None, None), ([("a", 0)], ("asks",), None),
                ([("a", 0)], ("ended", None), 1), ([("b", 0)], None, 0), ([("b", 0)], ("ended", 4), 0), ([("a", 3)], ("ended", 3), None),
                ([("a", 3)], ("ended", 4), 1), ([("a", None)], ("ended", 4), None), ([("a", None)], ("ended", 0), 1),
                ([("a", 5), ("b", 0)], None, 1), ([("a", None), ("b", None)], ("ended", 9), None), ([("a", None), ("a", 0)], None, 1),
                ([("a", 0), ("b", None), ("c", None)], ("ended", 0), 2), ([("a", 0), ("b", 0)], ("asks",), 2)):
            self.assertEqual(fits(AND, log, outcome), expected, (log, outcome))
            self.assertEqual(fits(AND, tuple(log), outcome), expected)

    def test_ends_with_numbers_and_told_failures(self):
        program = read_program("a || exit 3 ; b ; keep x ; c ; give x")
        for log, outcome, many, count in (
                ([("a", 7)], ("ended", 3), 0, 1), ([("a", None)], ("ended", 3), 0, 1), ([("a", 0)], ("ended", 3), 2, 2),
                ([("b", 3)], ("ended", 3), 2, 2), ([("b", 4)], ("ended", 3), None, 0), ([("c", 3)], ("ended", 3), 2, 1),
                ([], ("ended", 3), 1, 1), ([], ("ended", 4), 3, 2), ([], ("ended", 0), 3, 2), ([], ("ended", None), 1, 1),
                ([("c", None)], ("ended", 4), 2, 2), ([("a", None), ("b", None)], ("ended", 0), 1, 2)):
            self.assertEqual([lost(program, log, outcome), explanations(program, log, outcome)], [many, count], (log, outcome))
            thing = explained(program, log, outcome)
            self.assertEqual(thing is None, many is None)
            if thing is not None:
                self.assertTrue(is_explanation(program, log, outcome, thing))
        # A failure that was told equals a number of the program.
        self.assertTrue(explains(program, [("b", 3)], ("ended", 3), [("a", 0, False), ("b", 3, True), ("c", 9, False)]))
        self.assertFalse(explains(program, [("b", 3)], ("ended", 3), [("a", 0, False), ("b", 4, True), ("c", 9, False)]))
        self.assertFalse(explains(program, [("c", 3)], ("ended", 3), [("a", 0, False), ("b", 4, False), ("c", 3, True)]))

    def test_only_which_failures_are_told_does_not_count(self):
        program = read_program("times 2 do a end ; exit 0")
        self.assertEqual(explanations(program, [], ("ended", 0)), 4)
        self.assertEqual(explanations(program, [("a", None)], ("ended", 0)), 8)
        self.assertEqual(explanations(program, [("a", 7)], ("ended", 0)), 4)
        self.assertEqual(explanations(program, [("a", None)] * 2, None), 4)
        self.assertEqual(sure(program, [("a", None), ("a", 5)], None), ["open", "failed"])
        self.assertEqual(sure(program, [("a", 0), ("a", None)], None), ["well", "open"])
        self.assertEqual(sure(program, [], None), [])

    def test_runs_that_are_silent_or_go_on(self):
        program = read_program("a && while status 0 do status 0 end")
        self.assertEqual([fits(program, [("a", 0)], outcome) for outcome in (None, ("asks",), ("ended", None))], [None, 1, 1])
        self.assertEqual(lost(program, [("a", None)], ("asks",)), None)
        loop = read_program("until a do b end")
        self.assertEqual(lost(loop, [("b", None)] * 5, ("ended", 0)), 6)
        self.assertEqual(lost(loop, [("a", 0)] * 2, None), None)
        self.assertEqual(sure(loop, [("a", None)] * 3, ("ended", 0)), ["failed", "failed", "well"])
        self.assertEqual(explained(main(status(0)), [], ("ended", 0)), [])
        self.assertEqual(explained(main(status(0)), (), ("asks",)), None)

    def test_kept_lines_are_those_of_the_log(self):
        program = read_program("if c then a else b end")
        self.assertIs(explains(program, [("a", 0)], None, [("c", 0, False), ("a", 0, True)]), True)
        self.assertIs(explains(program, [("a", 0)], None, [("c", 1, False), ("b", 0, True)]), False)
        self.assertIs(explains(program, [("b", None)], None, [("c", 1, False), ("b", 0, True)]), True)

    def test_two_hundred_lines(self):
        log = [("a", None), ("b", 0)] * 100
        program = read_program("until ! a do b end")
        for outcome in (None, ("asks",)):
            self.assertEqual([function(program, log, outcome) for function in FUNCTIONS[:2]], [None, 0])
            self.assertEqual(sure(program, tuple(log), outcome), ["well", "well"] * 100)
        self.assertEqual(lost(program, log, ("ended", 0)), 1)
        self.assertEqual(explanations(read_program("times 499 do a ; b end"), log, None), 2 ** 100)
        for function in FUNCTIONS:
            assert_error(self, InvalidLog, -1, function, program, log + [("a", 0)], None)
            assert_error(self, InvalidLog, -1, function, program, log + [None], 3)

    def test_many_lost_lines(self):
        program = read_program("while c do times 30 do a && b end end")
        log = [("c", 0)] * 50
        self.assertEqual(lost(program, log, ("asks",)), 49 * 30)
        thing = explained(program, log, ("asks",))
        self.assertTrue(explains(program, log, ("asks",), thing))
        self.assertTrue(is_explanation(program, log, ("asks",), thing))

    def test_very_many_explanations(self):
        """Each line between two lines of the log may have failed or not."""
        program = read_program("while c do times 490 do a ; b end end")
        log = [("c", 0)] * 200
        self.assertEqual([lost(program, log, ("asks",)), fits(program, log, ("asks",))], [199 * 980, 1])
        self.assertEqual(explanations(program, log[:100], ("asks",)).bit_length(), 99 * 980 + 1)

    def test_large_statuses(self):
        large = 10 ** 5000
        program = main(A)
        self.assertEqual(explained(program, [], ("ended", large)), [("a", large, False)])
        self.assertEqual(fits(program, [("a", large)], ("ended", large)), None)
        self.assertEqual(fits(program, [("a", large)], ("ended", large + 1)), 1)


class Errors(unittest.TestCase):
    def functions(self):
        return [(function, ()) for function in FUNCTIONS] + [(explains, (None,))]

    def test_order(self):
        for function, more in self.functions():
            for program, path in NO_PROGRAMS:
                assert_error(self, InvalidProgram, path, function, program, None, 3, *more)
            for value in (None, True, 3, "ab", {}, {0: 1}, {"a"}, range(2), b"ab", object(), Live(AND)):
                assert_error(self, InvalidLog, -1, function, LARGE, value, 3, *more)
            good = ("a", None)
            for line in (None, "a", ("a",), ("a", 0, 0), ["a", 0], ("A", 0), ("if", 0), (None, 0), ("a", -1), ("a", True), ("a", "0"),
                         ("a", [0]), (["a"], 0), ("a", 1j), (), 3, Live(AND), (Live(AND), 0), ("a" * 13, 0), (b"a", 0)):
                assert_error(self, InvalidLog, 0, function, LARGE, [line, None], 3, *more)
                assert_error(self, InvalidLog, 2, function, AND, (good, good, line), 3, *more)
            for outcome in (3, True, "asks", (), ("asks", 1), ("ended",), ("ended", 0, 1), ("ended", -1), ("ended", True), ("ended", "0"),
                            ["asks"], ["ended", 0], ("silent",), ("Asks",), {}, object(), ("ended", [0]), (["asks"],), (None,), Live(AND),
                            ("asks", None), ("ended", 1j), {"asks"}, b"asks", ("silent", 0), ("failed", None), ("asks", "asks")):
                assert_error(self, Mismatch, "outcome", function, LARGE, [good], outcome, *more)
                assert_error(self, Mismatch, "outcome", function, AND, [], outcome, *more)
            assert_error(self, TooLarge, 1000, function, LARGE, [], None, *more)
            assert_error(self, TooLarge, 1000, function, LARGE, [("zz", None)], ("ended", 0), *more)

    def test_any_thing(self):
        for thing in (None, True, 3, "ab", b"ab", {}, set(), (), object(), [None], [()], [[]], [("a", 0)], [("a", 0, 1)], [("a", True, True)],
                      [(["a"], 0, True)], [Live(AND)], Live(AND), range(0), [("a", 0, True, True)], [("a", -1, True)], ["a0T"], [1j]):
            self.assertIs(explains(AND, [("a", None)], None, thing), False)
        self.assertIs(explains(AND, [("a", None)], None, [("a", 0, True)]), True)
        self.assertIs(explains(AND, [], None, []), True)
        self.assertIs(explains(AND, [], None, ()), False)
        self.assertIs(explains(AND, [], None, [("a", 0, False)]), False)

    def test_names_that_the_program_does_not_ask_for(self):
        self.assertEqual([function(AND, [("zz", None)], None) for function in FUNCTIONS], [0, None, None, 0, None])
        self.assertEqual([function(AND, [("a", 0), ("zz", 3)], None) for function in FUNCTIONS], [1, None, None, 0, None])

    def test_results_are_new(self):
        for function in (explained, sure):
            first = function(AND, [("b", None)], None)
            second = function(AND, [("b", None)], None)
            self.assertEqual(first, second)
            self.assertIsNot(first, second)


if __name__ == "__main__":
    unittest.main()
