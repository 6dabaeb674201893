"""Chances of outcomes, means, chances within counts, counted rows, failures before outcomes."""

import random
import unittest
from fractions import Fraction

from shellways.chances import chance_within, failed_before, mean_asked, outcome_chances, rows_counted
from shellways.errors import InvalidChances, InvalidNumber, InvalidProgram, Mismatch, TooLarge
from shellways.live import Live
from shellways.machines import situations
from shellways.programs import command_names
from shellways.shells import run
from shellways.texts import read_program
from tests.brute import rows_of, told
from tests.follow import small_samples
from tests.solving import NamedMachine, pair
from tests.trees import A, B, C, main, seq, status
from tests.wrong import NO_PROGRAMS, assert_error

OR = main(("or", A, B))
UNTIL = main(("until", A, B))
HALF = {"a": (1, 2), "b": (1, 3)}
LARGE = read_program("times 500 do a ; b end")
NO_CHANCES = (None, True, 1, "1", (1,), (1, 2, 3), [1, 2], (1, 0), (0, 0), (2, 1), (-1, 2), (1, -2), (True, 2), (1, True),
              (0, 10 ** 6 + 1), ("1", 2), ((1, 2), 3), (None, 1), {}, object(), (1j, 2), (1, 2j))


def sampled_chances(chance, program, choices=((0, 1), (1, 1), (2, 4), (1, 3), (1, 2), (999999, 10 ** 6), (3, 7), (0, 5))):
    return {name: chance.choice(choices) for name in command_names(program)[0]}


def by_rows(program, chances):
    """The chances of outcomes of a program that ends or is silent behind all short rows, row by row."""
    found = {}
    for row, (names, outcome) in rows_of(program, 12):
        if outcome[0] == "asks":
            continue
        weight = Fraction(1)
        for name, bit in zip(names, row):
            weight *= Fraction(*chances[name]) if bit else 1 - Fraction(*chances[name])
        key = (outcome[0],) if outcome[0] == "silent" else ("ended", outcome[1])
        if outcome[0] == "ended" and outcome[1] >= 1000:
            key = ("failed", names[outcome[1] - 1000])
        found.setdefault(key, []).append((weight, names, row))
    return found


def ends_soon(program):
    return all(outcome[0] != "asks" for row, (_, outcome) in rows_of(program, 9) if len(row) == 9)


class Outcomes(unittest.TestCase):
    def test_examples(self):
        self.assertEqual(outcome_chances(OR, HALF), {("ended", 0): (5, 6), ("failed", "b"): (1, 6)})
        self.assertEqual(outcome_chances(main(("while", A, status(0))), {"a": (0, 5)}), {("endless",): (1, 1)})
        self.assertEqual(mean_asked(UNTIL, HALF), {"a": (2, 1), "b": (1, 1)})
        self.assertEqual(chance_within(main(("until", A, status(0))), {"a": (1, 2)}, 3), (7, 8))
        self.assertEqual(rows_counted(main(("and", A, B)), 2), {("ended", 0): 1, ("failed", "b"): 1})
        self.assertEqual(failed_before(OR, HALF, ("ended", 0)), {"a": (2, 5), "b": (0, 1)})

    def test_programs_without_loops_row_by_row(self):
        chance = random.Random(5)
        tried = 0
        for program in small_samples(range(400)):
            if not ends_soon(program):
                continue
            tried += 1
            chances = sampled_chances(chance, program)
            rows = by_rows(program, chances)
            sums = {key: sum(weight for weight, _, _ in value) for key, value in rows.items()}
            self.assertEqual(outcome_chances(program, chances), {key: pair(x) for key, x in sums.items() if x}, program)
            means = {name: Fraction(0) for name in command_names(program)[0]}
            for weight, names, _ in [entry for value in rows.values() for entry in value]:
                for name in names:
                    means[name] += weight
            self.assertEqual(mean_asked(program, chances), {name: pair(x) for name, x in means.items()})
            for outcome in [key for key in rows if sums[key]]:
                failed = {name: pair(sum(weight for weight, names, row in rows[outcome]
                                         if any(bit and other == name for other, bit in zip(names, row))) / sums[outcome])
                          for name in means}
                self.assertEqual(failed_before(program, chances, outcome), failed, program)
        self.assertGreater(tried, 200)

    def test_loops_by_equations(self):
        chance = random.Random(6)
        found = set()
        for program in small_samples(range(250), most=25):
            if ends_soon(program):
                continue
            named = NamedMachine(program)
            for _ in range(2):
                chances = sampled_chances(chance, program)
                outcomes = named.outcomes(chances)
                self.assertEqual(outcome_chances(program, chances), outcomes, (program, chances))
                names = command_names(program)[0]
                if ("endless",) in outcomes:
                    self.assertIsNone(mean_asked(program, chances))
                else:
                    means = named.means(chances)
                    self.assertEqual(mean_asked(program, chances), {name: pair(means.get(name, 0)) for name in names})
                for outcome in outcomes:
                    if outcome != ("endless",):
                        expected = {name: pair(named.failed(chances, name, outcome)) for name in names}
                        self.assertEqual(failed_before(program, chances, outcome), expected, (program, chances, outcome))
                found |= set(outcome[0] for outcome in outcomes)
        self.assertEqual(found, {"ended", "failed", "silent", "endless"})

    def test_closed_forms(self):
        # The loop goes on while a goes well; b is asked in each round.
        program = read_program("while a do b end")
        self.assertEqual(mean_asked(program, {"a": (1, 10), "b": (1, 2)}), {"a": (10, 1), "b": (9, 1)})
        self.assertEqual(outcome_chances(program, {"a": (1, 10), "b": (1, 4)}),
                         {("ended", 0): (31, 40), ("failed", "b"): (9, 40)})
        program = read_program("times 20 do a || exit 3 end")
        self.assertEqual(outcome_chances(program, {"a": (1, 3)}),
                         {("ended", 0): (2 ** 20, 3 ** 20), ("ended", 3): pair(1 - Fraction(2, 3) ** 20)})
        self.assertEqual(mean_asked(program, {"a": (1, 3)}), {"a": pair(3 * (1 - Fraction(2, 3) ** 20))})
        program = read_program("until a do b && exit 5 end")
        self.assertEqual(outcome_chances(program, {"a": (999999, 10 ** 6), "b": (0, 7)})[("ended", 5)], (999999, 10 ** 6))

    def test_held_failures_are_told_by_their_command(self):
        program = read_program("if a then b ; keep x else c ; keep x end ; d ; give x")
        chances = {"a": (1, 4), "b": (1, 3), "c": (1, 5), "d": (1, 2)}
        self.assertEqual(outcome_chances(program, chances),
                         {("ended", 0): (7, 10), ("failed", "b"): (1, 4), ("failed", "c"): (1, 20)})
        self.assertEqual(failed_before(program, chances, ("failed", "c")),
                         {"a": (1, 1), "b": (0, 1), "c": (1, 1), "d": (1, 2)})
        self.assertEqual(situations(program), 7)

    def test_chances_of_0_and_1(self):
        self.assertEqual(outcome_chances(OR, {"a": (0, 3), "b": (7, 7)}), {("ended", 0): (1, 1)})
        self.assertEqual(outcome_chances(OR, {"a": (3, 3), "b": (7, 7)}), {("failed", "b"): (1, 1)})
        self.assertEqual(mean_asked(OR, {"a": (0, 3), "b": (7, 7)}), {"a": (1, 1), "b": (0, 1)})
        self.assertIsNone(mean_asked(UNTIL, {"a": (1, 1), "b": (0, 1)}))
        self.assertEqual(outcome_chances(UNTIL, {"a": (1, 1), "b": (0, 1)}), {("endless",): (1, 1)})
        # It can ask for ever, but only with the chance 0.
        self.assertEqual(mean_asked(UNTIL, {"a": (0, 1), "b": (1, 1)}), {"a": (1, 1), "b": (0, 1)})
        half = read_program("if a then while b do status 0 end else exit 4 end")
        self.assertEqual(outcome_chances(half, {"a": (1, 3), "b": (0, 1)}), {("endless",): (2, 3), ("ended", 4): (1, 3)})
        self.assertIsNone(mean_asked(half, {"a": (1, 3), "b": (0, 1)}))
        self.assertEqual(mean_asked(half, {"a": (1, 1), "b": (0, 1)}), {"a": (1, 1), "b": (0, 1)})
        self.assertEqual(outcome_chances(main(status(3)), {}), {("ended", 3): (1, 1)})
        self.assertEqual(mean_asked(main(status(3)), {}), {})
        self.assertEqual(mean_asked(main(("while", status(0), status(0))), {}), {})

    def test_commands_that_are_never_asked(self):
        program = ((("g", C),), seq(A, ("exit", 0), B))
        chances = {"a": (1, 2), "b": (1, 2), "c": (0, 1)}
        self.assertEqual(mean_asked(program, chances), {"a": (1, 1), "b": (0, 1), "c": (0, 1)})
        self.assertEqual(failed_before(program, chances, ("ended", 0)), {"a": (1, 2), "b": (0, 1), "c": (0, 1)})

    def test_commands_with_names_of_outcomes(self):
        program = read_program("silent || ended || asks ; failed && endless")
        chances = {name: (1, 2) for name in ("silent", "ended", "asks", "failed", "endless")}
        self.assertEqual(outcome_chances(program, chances),
                         {("ended", 0): (1, 4), ("failed", "failed"): (1, 2), ("failed", "endless"): (1, 4)})
        self.assertEqual(chance_within(read_program("silent"), chances, 1), (1, 1))
        self.assertEqual(rows_counted(read_program("silent && asks"), 1), {("failed", "silent"): 1, ("asks",): 1})
        self.assertEqual(failed_before(read_program("asks"), chances, ("failed", "asks")), {"asks": (1, 1)})

    def test_sum_is_1(self):
        for text in ("until a do b && exit 3 ; c end", "while a do until b do c || exit 7 end end", "a | b | c",
                     "option pipes on ; a | b | c", "trap end { a } ; b && c"):
            program = read_program(text)
            found = outcome_chances(program, {"a": (123457, 999983), "b": (2, 6), "c": (10 ** 6 - 1, 10 ** 6)})
            self.assertEqual(sum(Fraction(*x) for x in found.values()), 1)
            for x in found.values():
                self.assertEqual(pair(Fraction(*x)), x)


class Dicts(unittest.TestCase):
    def test_other_keys_of_any_kind(self):
        chances = {"a": (1, 2), "b": (1, 3), "zz": None, None: 3, 7: (9, 1), (1, 2): [], True: object(), b"a": 1, object(): 2,
                   "A": "x", frozenset(): (0, 0)}
        for function, more in ((outcome_chances, ()), (mean_asked, ()), (chance_within, (5,)), (failed_before, (("ended", 0),))):
            self.assertEqual(function(OR, chances, *more), function(OR, HALF, *more))
            self.assertEqual(function(OR, {"b": (2, 6), "a": (50, 100)}, *more), function(OR, HALF, *more))

    def test_dict_that_changes_between_questions(self):
        chances = dict(HALF)
        first = outcome_chances(OR, chances)
        chances["a"] = (0, 1)
        self.assertEqual(outcome_chances(OR, chances), {("ended", 0): (1, 1)})
        chances["a"] = (1, 2)
        self.assertEqual(outcome_chances(OR, chances), first)
        first.clear()
        self.assertEqual(len(outcome_chances(OR, chances)), 2)

    def test_invalid_chances(self):
        for function, more in ((outcome_chances, ()), (mean_asked, ()), (chance_within, (-1,)), (failed_before, (None,))):
            for program, path in NO_PROGRAMS:
                assert_error(self, InvalidProgram, path, function, program, None, *more)
            for value in (None, 3, "a", [], [("a", (1, 2))], (), {"a"}, object()):
                assert_error(self, InvalidChances, None, function, OR, value, *more)
                assert_error(self, InvalidChances, None, function, LARGE, value, *more)
            for value in NO_CHANCES:
                assert_error(self, InvalidChances, "b", function, OR, {"b": value, "a": (1, 2)}, *more)
                assert_error(self, InvalidChances, "a", function, OR, {"b": value, "a": value}, *more)
            assert_error(self, InvalidChances, "a", function, OR, {}, *more)
            assert_error(self, InvalidChances, "b", function, OR, {"a": (0, 1)}, *more)
            assert_error(self, InvalidChances, "b", function, LARGE, {"a": (0, 1)}, *more)
            assert_error(self, InvalidChances, "c", function, ((("g", C),), A), {"a": (0, 1)}, *more)
        self.assertEqual(outcome_chances(main(A), {"a": (1, 10 ** 6)})[("failed", "a")], (1, 10 ** 6))


class Counts(unittest.TestCase):
    def test_chance_within(self):
        for count in range(0, 101):
            self.assertEqual(chance_within(main(("until", A, status(0))), {"a": (1, 3)}, count),
                             pair(1 - Fraction(1, 3 ** count)))
        program = read_program("a && while status 0 do status 0 end")
        self.assertEqual([chance_within(program, {"a": (1, 3)}, count) for count in (0, 1, 100)], [(0, 1), (1, 3), (1, 3)])
        self.assertEqual([chance_within(main(status(4)), {}, count) for count in (0, 9)], [(1, 1), (1, 1)])
        self.assertEqual(chance_within(main(("while", status(0), status(0))), {}, 100), (0, 1))

    def test_against_rows(self):
        chance = random.Random(8)
        for program in small_samples(range(150)):
            chances = sampled_chances(chance, program)
            ended, rows = [Fraction(0)] * 7, [{} for _ in range(7)]
            for row, (names, outcome) in rows_of(program, 6):
                weight = Fraction(1)
                for name, bit in zip(names, row):
                    weight *= Fraction(*chances[name]) if bit else 1 - Fraction(*chances[name])
                key = ("asks",) if outcome[0] == "asks" else outcome[:-1]
                if outcome[0] == "ended":
                    ended[len(row)] += weight
                    if outcome[1] >= 1000:
                        key = ("failed", names[outcome[1] - 1000])
                rows[len(row)][key] = rows[len(row)].get(key, 0) + 1
            for count in range(7):
                self.assertEqual(chance_within(program, chances, count), pair(sum(ended[:count + 1])), program)
                self.assertEqual(rows_counted(program, count), rows[count], program)

    def test_many_rows(self):
        program = read_program("while status 0 do a || b end")
        self.assertEqual(rows_counted(program, 0), {("asks",): 1})
        before = rows_counted(program, 999)[("asks",)]
        self.assertEqual(rows_counted(program, 1000), {("asks",): 2 * before})
        self.assertEqual(rows_counted(program, 1000)[("asks",)], 2 ** 1000)
        self.assertEqual(rows_counted(read_program("until a do b end"), 1000), {("asks",): 2 ** 500})
        self.assertEqual(rows_counted(read_program("until a do b end"), 999),
                         {("asks",): 2 ** 499, ("ended", 0): 2 ** 498, ("failed", "b"): 2 ** 498})
        self.assertEqual(rows_counted(OR, 3), {})
        self.assertEqual(rows_counted(main(status(0)), 0), {("ended", 0): 1})
        self.assertEqual(rows_counted(main(status(0)), 1), {})
        self.assertEqual(rows_counted(main(("while", status(0), status(0))), 0), {("silent",): 1})

    def test_facts(self):
        for program in small_samples(range(200), most=30):
            names = command_names(program)[0]
            half = {name: (1, 2) for name in names}
            counted = [rows_counted(program, count) for count in range(12)]
            for count in range(11):
                self.assertEqual(sum(counted[count + 1].values()), 2 * counted[count].get(("asks",), 0))
            if ("asks",) not in counted[11]:
                sums = {}
                for count, found in enumerate(counted):
                    for outcome, many in found.items():
                        if outcome != ("asks",):
                            sums[outcome] = sums.get(outcome, 0) + Fraction(many, 2 ** count)
                self.assertEqual(outcome_chances(program, half), {outcome: pair(x) for outcome, x in sums.items()})

    def test_invalid_counts(self):
        for value in (None, True, False, -1, 101, "5", [5], 1j, (5,), object(), 10 ** 30):
            assert_error(self, InvalidNumber, "count", chance_within, OR, HALF, value)
            assert_error(self, InvalidNumber, "count", chance_within, LARGE, HALF, value)
        for value in (None, True, False, -1, 1001, "5", [5], 1j, (5,), object(), 10 ** 30):
            assert_error(self, InvalidNumber, "count", rows_counted, OR, value)
            assert_error(self, InvalidNumber, "count", rows_counted, LARGE, value)
        for program, path in NO_PROGRAMS:
            assert_error(self, InvalidProgram, path, rows_counted, program, -1)


class FailedBefore(unittest.TestCase):
    def test_each_outcome_and_others(self):
        program = read_program("until a do b && exit 3 ; c || while status 0 do status 0 end end ; d")
        chances = {"a": (1, 2), "b": (2, 3), "c": (1, 5), "d": (1, 2)}
        found = outcome_chances(program, chances)
        self.assertEqual(sorted(found), [("ended", 0), ("ended", 3), ("failed", "d"), ("silent",)])
        named = NamedMachine(program)
        for outcome in found:
            expected = {name: pair(named.failed(chances, name, outcome)) for name in "abcd"}
            self.assertEqual(failed_before(program, chances, outcome), expected)
        for value in (None, (), ("ended",), ("ended", True), ("ended", False), ("ended", 4), ("ended", 0, 0), ["ended", 0],
                      ("failed", "a"), ("failed", "zz"), ("failed",), ("failed", 0), ("silent", 0), ("endless",), ("asks",),
                      "silent", ("silence",), ("ended", "0"), ("ended", [0]), [], {}, 3, object(), Live(OR), ("ended", Live(OR))):
            assert_error(self, Mismatch, "outcome", failed_before, program, chances, value)
        assert_error(self, Mismatch, "outcome", failed_before, program, {**chances, "b": (1, 1)}, ("ended", 3))
        assert_error(self, Mismatch, "outcome", failed_before, UNTIL, {"a": (1, 1), "b": (1, 2)}, ("endless",))

    def test_commands_that_fail_again(self):
        program = read_program("until a do a || b ; a end ; c")
        chances = {"a": (1, 3), "b": (1, 7), "c": (2, 5)}
        named = NamedMachine(program)
        for outcome in (("ended", 0), ("failed", "c")):
            expected = {name: pair(named.failed(chances, name, outcome)) for name in "abc"}
            self.assertEqual(failed_before(program, chances, outcome), expected)


def loop_of(commands):
    """A loop of so many situations, one of which leads out."""
    return "until a do " + " ; ".join(["b"] * (commands - 1)) + " ; status 0 end"


class Limits(unittest.TestCase):
    def functions(self, outcome=("ended", 0)):
        return ((outcome_chances, ()), (mean_asked, ()), (chance_within, (3,)), (failed_before, (outcome,)))

    def check_fits(self, text, chances):
        program = read_program(text)
        for function, more in self.functions():
            function(program, chances, *more)
        rows_counted(program, 5)

    def check_too_large(self, text, chances, limit):
        program = read_program(text)
        for function, more in self.functions(None):
            assert_error(self, TooLarge, limit, function, program, chances, *more)
        assert_error(self, TooLarge, limit, rows_counted, program, 0)

    def test_forty_situations_that_lead_to_one_another(self):
        for chances in (HALF, {"a": (0, 1), "b": (0, 1)}, {"a": (1, 2), "b": (1, 1)}):
            self.check_fits(loop_of(40), chances)
            self.check_too_large(loop_of(41), chances, 40)
            self.check_fits(loop_of(21) + " ; " + loop_of(21), chances)
        self.check_fits(loop_of(40) + " ; " + loop_of(40) + " ; " + loop_of(40), HALF)

    def test_names_in_slots_count(self):
        # 20 situations, but each also with the name of either command in its slot.
        text = "while status 0 do if a then b else c end ; keep x ; " + " ; ".join(["d"] * 17) + " end"
        chances = {name: (1, 2) for name in "abcd"}
        self.assertLess(situations(read_program(text)), 60)
        self.check_too_large(text, chances, 40)

    def test_thousand_situations(self):
        self.check_fits("times 499 do a ; b end", HALF)
        self.check_too_large("times 499 do a ; b end ; c", {**HALF, "c": (1, 2)}, 1000)
        # Two commands end the program with their failures, so that there is one more with names.
        chances = {**HALF, "c": (1, 2), "d": (0, 1)}
        for rounds, many in ((994, 999), (995, 1000)):
            text = f"times {rounds} do d end ; if a then b else c end"
            self.assertEqual(situations(read_program(text)), many)
            if many == 999:
                self.check_fits(text, chances)
            else:
                self.check_too_large(text, chances, 1000)

    def test_order_of_limits(self):
        large = "times 500 do a ; b end ; " + loop_of(60)
        self.check_too_large(large, HALF, 1000)

    def test_order_of_errors(self):
        assert_error(self, InvalidNumber, "count", chance_within, read_program(loop_of(41)), HALF, -1)
        assert_error(self, TooLarge, 40, failed_before, read_program(loop_of(41)), HALF, "x")


class Nothing(unittest.TestCase):
    def test_run_agrees(self):
        """What has a chance can be come to by run."""
        for program in small_samples(range(200, 260)):
            names = command_names(program)[0]
            found = outcome_chances(program, {name: (1, 2) for name in names})
            for row, (asked, outcome) in rows_of(program, 5):
                if outcome[0] == "ended":
                    key = outcome[:2] if outcome[1] < 1000 else ("failed", asked[outcome[1] - 1000])
                    self.assertIn(key, found)
                elif outcome[0] == "silent":
                    self.assertIn(("silent",), found)
                self.assertEqual(run(program, told(row))[1], outcome)


if __name__ == "__main__":
    unittest.main()
