"""Chances of goals if chances of failing lie in ranges, and papers that show them."""

import itertools
import random
import unittest
from fractions import Fraction

from shellways.bounds import (
    greatest_chance, least_chance, lower_paper, shows_at_least, shows_at_most, upper_paper, worst_choices,
)
from shellways.chances import outcome_chances
from shellways.errors import InvalidChances, InvalidName, InvalidNumber, InvalidProgram, TooLarge
from shellways.live import Live
from shellways.machines import machine
from shellways.programs import command_names
from shellways.texts import read_program
from tests.brute import rows_of
from tests.follow import nexts_of, small_samples
from tests.solving import hits, pair
from tests.test_chances import NO_CHANCES, loop_of
from tests.trees import A, B, main, status
from tests.wrong import NO_PROGRAMS, assert_error

GOALS = ("well", "badly", "ends")
OR = main(("or", A, B))
RANGES = {"a": ((1, 4), (1, 2)), "b": ((0, 1), (1, 3))}
LARGE = read_program("times 500 do a ; b end")
EDGES = ((0, 1), (1, 1), (1, 2), (2, 4), (1, 3), (999999, 10 ** 6), (3, 7), (0, 5), (1, 10 ** 6))


def sampled_ranges(chance, program):
    found = {}
    for name in command_names(program)[0]:
        both = [chance.choice(EDGES), chance.choice(EDGES)]
        found[name] = tuple(sorted(both, key=lambda part: Fraction(*part)))
    return found


def goals_of(entries, goal):
    def is_goal(entry):
        return entry[0] == "end" and (goal == "ends" or (entry[1] == 0) == (goal == "well"))
    return {number for number, entry in enumerate(entries) if is_goal(entry)}


def all_chances(program, ranges, goal):
    """The chances of the goal with all choices of low and high."""
    entries, nexts = machine(program), nexts_of(program)
    asking = [number for number, entry in enumerate(entries) if entry[0] == "ask"]
    found = []
    for picks in itertools.product((0, 1), repeat=len(asking)):
        failing = [None] * len(entries)
        for number, pick in zip(asking, picks):
            failing[number] = Fraction(*ranges[entries[number][2]][pick])
        found.append(hits(nexts, failing, goals_of(entries, goal))[0])
    return found


def with_choices(program, ranges, goal, words):
    """The chance of the goal with the choices of a list."""
    entries, nexts = machine(program), nexts_of(program)
    failing = []
    for entry, word in zip(entries, words):
        failing.append(None if word is None else Fraction(*ranges[entry[2]][("low", "high").index(word)]))
    return pair(hits(nexts, failing, goals_of(entries, goal))[0])


def row_by_row(program, ranges, goal):
    """Both ends of the chances of a program without loops, by the rows behind each row."""
    outcomes = {tuple(row): result for row, result in rows_of(program, 12)}

    def both(row):
        names, outcome = outcomes[row]
        if outcome[0] != "asks":
            is_goal = outcome[0] == "ended" and (goal == "ends" or (outcome[1] == 0) == (goal == "well"))
            return (Fraction(int(is_goal)),) * 2
        well, badly = both(row + (0,)), both(row + (1,))
        edges = [Fraction(*edge) for edge in ranges[outcome[1]]]
        return (min(edge * badly[0] + (1 - edge) * well[0] for edge in edges),
                max(edge * badly[1] + (1 - edge) * well[1] for edge in edges))
    return both(())


def is_upper(program, ranges, goal, bound, paper):
    """The words of the document, followed step by step."""
    entries = machine(program)
    if type(paper) is not list or len(paper) != len(entries):
        return False
    for worth in paper:
        if type(worth) is not tuple or len(worth) != 2 or any(type(part) is not int for part in worth):
            return False
        if worth[1] < 1 or pair(Fraction(*worth)) != worth or worth[0] < 0:
            return False
    worth = [Fraction(*value) for value in paper]
    for number, entry in enumerate(entries):
        if number in goals_of(entries, goal) and worth[number] < 1:
            return False
        if entry[0] == "ask":
            for edge in ranges[entry[2]]:
                edge = Fraction(*edge)
                if worth[number] < edge * worth[entry[5][0]] + (1 - edge) * worth[entry[4][0]]:
                    return False
    return worth[0] <= Fraction(*bound)


def is_lower(program, ranges, goal, bound, paper):
    entries = machine(program)
    if type(paper) is not list or len(paper) != len(entries):
        return False
    for line in paper:
        if type(line) is not tuple or len(line) != 2 or type(line[1]) is not int or line[1] < 0:
            return False
        worth = line[0]
        if type(worth) is not tuple or len(worth) != 2 or any(type(part) is not int for part in worth):
            return False
        if worth[1] < 1 or pair(Fraction(*worth)) != worth:
            return False
    worth = [Fraction(*line[0]) for line in paper]
    for number, entry in enumerate(entries):
        if entry[0] != "ask":
            if worth[number] > int(number in goals_of(entries, goal)):
                return False
            continue
        for edge in ranges[entry[2]]:
            edge = Fraction(*edge)
            well, badly = entry[4][0], entry[5][0]
            if worth[number] > edge * worth[badly] + (1 - edge) * worth[well]:
                return False
            possible = [badly] * (edge > 0) + [well] * (edge < 1)
            if worth[number] > 0 and all(paper[other][1] >= paper[number][1] for other in possible):
                return False
    return worth[0] >= Fraction(*bound)


class Chances(unittest.TestCase):
    def test_examples(self):
        self.assertEqual([least_chance(OR, RANGES, "badly"), greatest_chance(OR, RANGES, "badly")], [(0, 1), (1, 6)])
        loop = main(("until", A, status(0)))
        self.assertEqual(least_chance(loop, {"a": ((1, 2), (1, 1))}, "ends"), (0, 1))
        program, ranges = main(A), {"a": ((1, 4), (1, 2))}
        self.assertTrue(shows_at_most(program, ranges, "badly", (1, 2), [(1, 2), (0, 1), (1, 1)]))
        self.assertTrue(shows_at_least(program, ranges, "badly", (1, 4), [((1, 4), 1), ((0, 1), 0), ((1, 1), 0)]))
        self.assertEqual(worst_choices(program, ranges, "badly"), ["high", None, None])

    def check(self, program, ranges, goal, least, greatest):
        self.assertEqual(least_chance(program, ranges, goal), pair(least), (program, ranges, goal))
        self.assertEqual(greatest_chance(program, ranges, goal), pair(greatest), (program, ranges, goal))
        words = worst_choices(program, ranges, goal)
        self.assertEqual([word in ("low", "high") for word in words], [entry[0] == "ask" for entry in machine(program)])
        self.assertEqual({word for word, entry in zip(words, machine(program)) if entry[0] != "ask"} - {None}, set())
        self.assertEqual(with_choices(program, ranges, goal, words), pair(greatest), (program, ranges, goal))

    def test_programs_without_loops_row_by_row(self):
        chance = random.Random(3)
        tried = 0
        for program in small_samples(range(300)):
            if any(outcome[0] == "asks" for row, (_, outcome) in rows_of(program, 9) if len(row) == 9):
                continue
            tried += 1
            ranges = sampled_ranges(chance, program)
            for goal in GOALS:
                self.check(program, ranges, goal, *row_by_row(program, ranges, goal))
        self.assertGreater(tried, 150)

    def test_loops_with_all_choices(self):
        chance = random.Random(4)
        tried = 0
        for program in small_samples(range(400), most=9):
            if not any(number in nexts_of(program)[k] for k in range(len(machine(program))) for number in range(k + 1)):
                continue
            tried += 1
            ranges = sampled_ranges(chance, program)
            for goal in GOALS:
                found = all_chances(program, ranges, goal)
                self.check(program, ranges, goal, min(found), max(found))
        self.assertGreater(tried, 40)

    def test_loops_that_can_be_kept_up_for_ever(self):
        ways = ((0, 1), (1, 2), (1, 1))
        ranges_of = [(low, high) for low in ways for high in ways if Fraction(*low) <= Fraction(*high)]
        for text in ("until a do b end", "while a do b end", "until a do b && exit 3 end", "while a do b || exit 0 end",
                     "until a do until b do status 0 end end", "while status 0 do a && exit 0 ; b && exit 4 end",
                     "if a then while b do status 0 end else exit 1 end", "until a do while b do status 0 end end",
                     "until a do b || while status 0 do status 0 end end"):
            program = read_program(text)
            for first, second in itertools.product(ranges_of, repeat=2):
                ranges = {"a": first, "b": second}
                for goal in GOALS:
                    found = all_chances(program, ranges, goal)
                    self.check(program, ranges, goal, min(found), max(found))

    def test_a_hundred_questions_ahead_of_one(self):
        program = read_program("times 100 do a end ; b && exit 7")
        ranges = {"a": ((1, 999983), (3, 5)), "b": ((1, 3), (1, 2))}
        self.assertEqual([least_chance(program, ranges, "badly"), greatest_chance(program, ranges, "badly")], [(1, 1)] * 2)
        program = read_program("times 100 do a || exit 0 end ; b || exit 0 ; exit 3")
        for goal, least, greatest in (("badly", pair(Fraction(2, 5) ** 100 / 2), pair(Fraction(999982, 999983) ** 100 * 2 / 3)),
                                      ("ends", (1, 1), (1, 1))):
            self.assertEqual([least_chance(program, ranges, goal), greatest_chance(program, ranges, goal)], [least, greatest])

    def test_program_that_asks_nothing(self):
        for number, word in ((0, "well"), (9, "badly")):
            program = main(status(number))
            for goal in GOALS:
                self.check(program, {}, goal, *[int(goal in (word, "ends"))] * 2)
        for goal in GOALS:
            self.check(main(("while", status(0), status(0))), {}, goal, 0, 0)

    def test_facts(self):
        chance = random.Random(9)
        for program in small_samples(range(150), most=20):
            ranges = sampled_ranges(chance, program)
            points = {name: (low, low) for name, (low, _) in ranges.items()}
            wide = {name: ((0, 1), high) for name, (_, high) in ranges.items()}
            for goal in GOALS:
                outcomes = outcome_chances(program, {name: low for name, (low, _) in ranges.items()})
                sums = sum(Fraction(*x) for outcome, x in outcomes.items()
                           if outcome[0] in ("ended", "failed") and (goal == "ends" or (outcome == ("ended", 0)) == (goal == "well")))
                self.check(program, points, goal, sums, sums)
                narrow = Fraction(*least_chance(program, ranges, goal)), Fraction(*greatest_chance(program, ranges, goal))
                self.assertLessEqual(Fraction(*least_chance(program, wide, goal)), narrow[0])
                self.assertGreaterEqual(Fraction(*greatest_chance(program, wide, goal)), narrow[1])
        program = main(("not", A))
        self.assertEqual([greatest_chance(program, {"a": ((0, 1), (x, 4))}, "well") for x in range(5)],
                         [(0, 1), (1, 4), (1, 2), (3, 4), (1, 1)])
        self.assertEqual([least_chance(program, {"a": ((x, 4), (1, 1))}, "badly") for x in range(5)], [(0, 1)] * 5)
        self.assertEqual([greatest_chance(program, {"a": ((x, 4), (1, 1))}, "badly") for x in range(5)],
                         [(1, 1), (3, 4), (1, 2), (1, 4), (0, 1)])

    def test_dict_that_changes_and_order_of_keys(self):
        ranges = {"b": ((0, 3), (2, 6)), "zz": 3, 7: None, "a": ((25, 100), (1, 2)), None: [], (1, 2): {}}
        for function in (least_chance, greatest_chance, upper_paper, lower_paper, worst_choices):
            for goal in GOALS:
                self.assertEqual(function(OR, ranges, goal), function(OR, RANGES, goal))
        before = greatest_chance(OR, ranges, "badly")
        ranges["a"] = ((0, 1), (0, 1))
        self.assertEqual(greatest_chance(OR, ranges, "badly"), (0, 1))
        ranges["a"] = RANGES["a"]
        self.assertEqual(greatest_chance(OR, ranges, "badly"), before)


class Papers(unittest.TestCase):
    def test_papers_show_both_chances(self):
        chance = random.Random(12)
        for program in small_samples(range(150), most=30):
            ranges = sampled_ranges(chance, program)
            for goal in GOALS:
                upper, lower = upper_paper(program, ranges, goal), lower_paper(program, ranges, goal)
                most, least = greatest_chance(program, ranges, goal), least_chance(program, ranges, goal)
                self.assertTrue(is_upper(program, ranges, goal, most, upper), (program, ranges))
                self.assertTrue(is_lower(program, ranges, goal, least, lower), (program, ranges))
                self.check_bounds(program, ranges, goal, most, upper, least, lower)

    def check_bounds(self, program, ranges, goal, most, upper, least, lower):
        for top, bottom in (most, (3 * most[0], 3 * most[1]), (3 * most[0] + 1, 3 * most[1]), (3 * most[0] - 1, 3 * most[1]),
                            (0, 5), (7, 7)):
            if 0 <= top <= bottom:
                self.assertIs(shows_at_most(program, ranges, goal, (top, bottom), upper),
                              Fraction(*upper[0]) <= Fraction(top, bottom))
        for top, bottom in (least, (3 * least[0], 3 * least[1]), (3 * least[0] + 1, 3 * least[1]),
                            (3 * least[0] - 1, 3 * least[1]), (0, 5), (7, 7)):
            if 0 <= top <= bottom:
                self.assertIs(shows_at_least(program, ranges, goal, (top, bottom), lower),
                              Fraction(*lower[0][0]) >= Fraction(top, bottom))

    def test_changed_papers(self):
        chance = random.Random(13)
        found = set()
        for program in small_samples(range(60), most=10):
            ranges = sampled_ranges(chance, program)
            for goal in GOALS:
                most, least = greatest_chance(program, ranges, goal), least_chance(program, ranges, goal)
                for paper in changed(upper_paper(program, ranges, goal), chance):
                    shown = is_upper(program, ranges, goal, most, paper)
                    found.add(("upper", shown))
                    self.assertIs(shows_at_most(program, ranges, goal, most, paper), shown, (program, ranges, paper))
                lower = lower_paper(program, ranges, goal)
                for paper in changed(lower, chance):
                    shown = is_lower(program, ranges, goal, least, paper)
                    found.add(("lower", shown))
                    self.assertIs(shows_at_least(program, ranges, goal, least, paper), shown, (program, ranges, paper))
                for paper in changed([line[0] for line in lower], chance):
                    if type(paper) is list and len(paper) == len(lower):
                        paper = [(worth, line[1]) for worth, line in zip(paper, lower)]
                        self.assertIs(shows_at_least(program, ranges, goal, least, paper),
                                      is_lower(program, ranges, goal, least, paper), (program, ranges, paper))
        self.assertEqual(len(found), 4)

    def test_papers_that_show_more(self):
        ranges = {"a": ((1, 4), (1, 2))}
        program = main(A)
        self.assertTrue(shows_at_most(program, ranges, "badly", (1, 1), [(1, 1), (1, 1), (1, 1)]))
        self.assertTrue(shows_at_most(program, ranges, "badly", (3, 4), [(3, 4), (1, 2), (1, 1)]))
        self.assertFalse(shows_at_most(program, ranges, "badly", (1, 1), [(2, 1), (1, 1), (3, 1)]))
        self.assertFalse(shows_at_least(program, ranges, "badly", (0, 9), [((-7, 1), 5), ((-3, 1), 9), ((1, 2), 7)]))
        self.assertTrue(shows_at_least(program, ranges, "badly", (0, 9), [((0, 1), 5), ((0, 1), 9), ((1, 2), 7)]))
        self.assertTrue(shows_at_least(program, {"a": ((1, 1), (1, 1))}, "badly", (1, 2), [((1, 2), 8), ((-3, 1), 9), ((1, 2), 7)]))
        self.assertTrue(shows_at_least(program, ranges, "badly", (1, 8), [((1, 8), 10 ** 40), ((0, 1), 3), ((1, 2), 4)]))
        # A loop that can be kept up for ever has no ranks.
        loop, ranges = main(("until", A, status(0))), {"a": ((1, 2), (1, 1))}
        self.assertFalse(shows_at_least(loop, ranges, "ends", (1, 1), [((1, 1), 1), ((1, 1), 0)]))
        self.assertTrue(shows_at_least(loop, {"a": ((1, 2), (2, 3))}, "ends", (1, 1), [((1, 1), 1), ((1, 1), 0)]))
        self.assertFalse(shows_at_least(loop, {"a": ((1, 2), (2, 3))}, "ends", (1, 1), [((1, 1), 0), ((1, 1), 0)]))

    def test_any_object(self):
        program, ranges = main(A), {"a": ((1, 4), (1, 2))}
        upper, lower = upper_paper(program, ranges, "badly"), lower_paper(program, ranges, "badly")
        for paper in (None, True, 3, "abc", b"abc", {}, {0: 1}, set(), (), [], [None] * 3, [[1, 2]] * 3, [(1,)] * 3, object(),
                      [()] * 3, ["ab"] * 3, tuple(upper), tuple(lower), range(3), [(1, 2, 3)] * 3, [Live(program)] * 3, 1j):
            self.assertIs(shows_at_most(program, ranges, "badly", (1, 1), paper), False)
            self.assertIs(shows_at_least(program, ranges, "badly", (0, 1), paper), False)
        for worth in ((2, 4), (0, 2), (True, 1), (1, True), (1, 0), (1, -1), (-1, 2), [1, 2], ((1, 1), 1), ("1", 2), (1j, 1), None):
            self.assertIs(shows_at_most(program, ranges, "ends", (1, 1), [worth, (1, 1), (1, 1)]), False)
        for place in range(3):
            for worth in ((0, -1), (1, 0), (-1, -1), (1, -1), (-1, -2), (2, 2), (0, 0), (3, 0)):
                self.assertIs(shows_at_most(program, ranges, "badly", (1, 1), upper[:place] + [worth] + upper[place + 1:]), False)
                line = (worth, lower[place][1])
                self.assertIs(shows_at_least(program, ranges, "badly", (0, 1), lower[:place] + [line] + lower[place + 1:]), False)
        # Also where no chance leads.
        sure = {"a": ((1, 1), (1, 1))}
        for worth, good in (((0, 1), True), ((9, 1), True), ((1, 0), False), ((0, -1), False), ((5, -1), False), ((2, 2), False)):
            self.assertIs(shows_at_most(program, sure, "badly", (1, 1), [(1, 1), worth, (1, 1)]), good)
        for worth, good in (((0, 1), True), ((-9, 1), True), ((-1, 0), False), ((0, -1), False), ((5, -1), False), ((-2, 2), False)):
            self.assertIs(shows_at_least(program, sure, "badly", (1, 1), [((1, 1), 1), (worth, 0), ((1, 1), 0)]), good)
        for line in (((0, 2), 0), ((0, 1), -1), ((0, 1), True), ((0, 1), None), ((0, 1), 0, 0), ((0, 1),), [(0, 1), 0], ((False, 1), 0)):
            self.assertIs(shows_at_least(program, ranges, "ends", (0, 1), [line, ((0, 1), 0), ((0, 1), 0)]), False)


def changed(paper, chance):
    """The paper with one or two things changed."""
    yield list(paper)
    yield tuple(paper)
    yield paper[1:]
    yield paper + [paper[0]]
    if len(paper) > 1:
        i, j = chance.sample(range(len(paper)), 2)
        swapped = list(paper)
        swapped[i], swapped[j] = swapped[j], swapped[i]
        yield swapped
    for place in range(len(paper)):
        entry = paper[place]
        for other in changed_entries(entry):
            yield paper[:place] + [other] + paper[place + 1:]


def changed_entries(entry):
    if type(entry[0]) is tuple:
        worth, rank = entry
        for other in changed_entries(worth):
            yield (other, rank)
        for other in (rank - 1, rank + 1, 0, 99, bool(rank), None):
            yield (worth, other)
    else:
        for more in (Fraction(1, 1000), Fraction(-1, 1000), 1, -1):
            yield pair(Fraction(*entry) + more)
        yield (2 * entry[0], 2 * entry[1])
        yield list(entry)
        yield (bool(entry[0]), entry[1])


class Errors(unittest.TestCase):
    def functions(self):
        plain = (least_chance, greatest_chance, upper_paper, lower_paper, worst_choices)
        return [(function, ()) for function in plain] + [(shows_at_most, (None, [])), (shows_at_least, (None, []))]

    def test_order(self):
        for function, more in self.functions():
            for program, path in NO_PROGRAMS:
                assert_error(self, InvalidProgram, path, function, program, None, None, *more)
            for value in (None, 3, "a", [], (), {"a"}, object()):
                assert_error(self, InvalidChances, None, function, LARGE, value, None, *more)
            good = ((0, 1), (1, 1))
            for value in NO_CHANCES:
                for both in ((value, (1, 1)), ((0, 1), value), value):
                    assert_error(self, InvalidChances, "b", function, OR, {"a": good, "b": both}, None, *more)
                    assert_error(self, InvalidChances, "a", function, LARGE, {"a": both}, None, *more)
            for value in (((1, 2), (1, 3)), ((1, 1), (0, 1)), [(0, 1), (1, 1)], ((0, 1),), ((0, 1), (0, 1), (0, 1)), (1, 2)):
                assert_error(self, InvalidChances, "a", function, OR, {"a": value, "b": good}, None, *more)
            assert_error(self, InvalidChances, "b", function, OR, {"a": good}, None, *more)
            ranges = {"a": ((2, 4), (1, 2)), "b": good}
            for value in (None, True, 3, "", "Well", "good", b"well", ["well"], ("well",), {"well"}, {}, object()):
                assert_error(self, InvalidName, value, function, OR, ranges, value, *more)
                assert_error(self, InvalidName, value, function, LARGE, ranges, value, *more)

    def test_bounds(self):
        ranges = {"a": ((1, 4), (1, 2)), "b": ((1, 4), (1, 2))}
        for function in (shows_at_most, shows_at_least):
            for value in (None, True, 1, (1,), (1, 2, 3), [1, 2], (1, 0), (0, 0), (3, 2), (-1, 2), (1, -2), (True, 2), (1, True),
                          ("1", 2), (None, 1), {}, object(), ((1, 2), 3), (1, 1j)):
                assert_error(self, InvalidNumber, "bound", function, OR, ranges, "well", value, None)
                assert_error(self, InvalidNumber, "bound", function, LARGE, ranges, "well", value, None)
            assert_error(self, TooLarge, 1000, function, LARGE, ranges, "well", (1, 1), None)
            self.assertIs(function(OR, ranges, "well", (10 ** 30, 10 ** 40), None), False)

    def test_limits(self):
        ranges = {"a": ((0, 1), (0, 1)), "b": ((0, 1), (1, 1))}
        for function, more in self.functions():
            more = ((1, 1), []) if more else ()
            function(read_program(loop_of(40)), ranges, "well", *more)
            assert_error(self, TooLarge, 40, function, read_program(loop_of(41)), ranges, "well", *more)
            function(read_program(loop_of(21) + " ; " + loop_of(21)), ranges, "well", *more)
            function(read_program("times 499 do a ; b end"), ranges, "well", *more)
            assert_error(self, TooLarge, 1000, function, LARGE, ranges, "well", *more)
            assert_error(self, TooLarge, 1000, function, read_program("times 500 do a ; b end ; " + loop_of(50)),
                         ranges, "ends", *more)

    def test_names_in_slots_do_not_count(self):
        text = "while status 0 do if a then b else c end ; keep x ; " + " ; ".join(["d"] * 17) + " end"
        ranges = {name: ((1, 3), (1, 2)) for name in "abcd"}
        self.assertEqual(greatest_chance(read_program(text), ranges, "ends"), (0, 1))

    def test_results_are_new(self):
        for function in (upper_paper, lower_paper, worst_choices):
            first = function(OR, RANGES, "ends")
            second = function(OR, RANGES, "ends")
            self.assertEqual([type(first), first], [list, second])
            first.clear()
            self.assertEqual(function(OR, RANGES, "ends"), second)


if __name__ == "__main__":
    unittest.main()
