"""Programs whose situations lead to one another in any way: each stage against a second way to the answer."""

import random
import unittest
from fractions import Fraction

from shellways.alike import alike
from shellways.can import deaf, escape, fate, hardiness, shows_surely, surely
from shellways.chances import failed_before, mean_asked, outcome_chances
from shellways.machines import machine
from shellways.programs import command_names
from shellways.rewriting import flat
from shellways.shares import least_share
from shellways.shells import run
from tests import test_between, test_can, test_covers, test_logs, test_shares
from tests.brute import told
from tests.follow import nexts_of, number_behind
from tests.looped import looped, looped_samples
from tests.solving import NamedMachine, pair
from tests.test_between import GOALS, all_chances, is_lower, is_upper, sampled_ranges
from tests.test_chances import sampled_chances


class Looped(unittest.TestCase):
    def test_samples_are_as_described(self):
        program = looped([(1, "told"), (2, 0), ((3,), (0,))], "abc")
        self.assertEqual(machine(program), [
            ("ask", (-1, 1, 1, 1, 0), "a", 0, (1, ()), (2, ("now",))), ("ask", (-1, 1, 1, 2, 0), "b", 0, (3, ()), (0, ())),
            ("end", "slot"), ("ask", (-1, 1, 2, 1, 0), "c", 0, (4, ()), (5, ())), ("end", 3), ("end", 0)])
        sizes = {len(machine(program)) for program in looped_samples(range(100))}
        self.assertGreater(len(sizes), 8)

    def test_chances_between_bounds(self):
        chance = random.Random(31)
        for program in looped_samples(range(250), most=6):
            ranges = sampled_ranges(chance, program)
            for goal in GOALS:
                found = all_chances(program, ranges, goal)
                test_between.Chances.check(self, program, ranges, goal, min(found), max(found))
                self.assertTrue(is_upper(program, ranges, goal, pair(max(found)), test_between.upper_paper(program, ranges, goal)))
                self.assertTrue(is_lower(program, ranges, goal, pair(min(found)), test_between.lower_paper(program, ranges, goal)))

    def test_chances(self):
        chance = random.Random(32)
        for program in looped_samples(range(200)):
            chances = sampled_chances(chance, program)
            named = NamedMachine(program)
            outcomes = named.outcomes(chances)
            self.assertEqual(outcome_chances(program, chances), outcomes, (program, chances))
            names = command_names(program)[0]
            if ("endless",) in outcomes:
                self.assertIsNone(mean_asked(program, chances))
            else:
                means = named.means(chances)
                self.assertEqual(mean_asked(program, chances), {name: pair(means.get(name, 0)) for name in names})
            for outcome in outcomes:
                if outcome != ("endless",):
                    expected = {name: pair(named.failed(chances, name, outcome)) for name in names}
                    self.assertEqual(failed_before(program, chances, outcome), expected, (program, chances, outcome))

    def test_what_can_happen(self):
        for program in looped_samples(range(200)):
            nexts, entries = nexts_of(program), machine(program)
            found = hardiness(program)
            self.assertEqual(None if found is None else found[0], test_can.Hardiness.least(self, program), program)
            self.assertEqual(fate(program, []), test_can.Fates.word(self, nexts, entries, 0))
            self.assertEqual(deaf(program), test_can.Deaf.followed(self, program))
            for name in command_names(program)[0]:
                shown = surely(program, name)
                self.check_escape(program, name, shown, escape(program, name))

    def check_escape(self, program, name, shown, found):
        self.assertEqual(shown is None, found is not None)
        if found is None:
            self.assertTrue(test_can.shows(program, name, shown))
            self.assertTrue(shows_surely(program, name, shown))
            return
        row, again = found
        names, outcome = run(program, told(row + again))
        self.assertNotIn(name, names)
        self.assertEqual(outcome[0] == "asks", bool(again))
        if again:
            nexts = nexts_of(program)
            self.assertEqual(number_behind(nexts, row + again), number_behind(nexts, row))

    def test_shares(self):
        for program in looped_samples(range(200), most=7):
            test_shares.Shares.check(self, program)
            result, shares = least_share(program), test_shares.cycle_shares(nexts_of(program))
            self.assertEqual(result[0] == "finite", not shares)
            if shares and 0 not in shares:
                self.assertEqual(Fraction(result[1], result[2]), min(shares))

    def test_covers(self):
        for program in looped_samples(range(200), most=16):
            test_covers.Covers.check(self, program)

    def test_logs(self):
        chance = random.Random(33)
        for program in looped_samples(range(60)):
            log, outcome = test_logs.sampled_log(chance, program)
            runs = list(test_logs.runs_up_to(program, len(log) + test_logs.MORE))
            found = list(test_logs.explanations_of(runs, log, outcome))
            test_logs.Samples.check(test_logs.Samples(), program, log, outcome, found)

    def test_flat(self):
        for program in looped_samples(range(60), most=20):
            self.assertTrue(alike(program, flat(program)))


if __name__ == "__main__":
    unittest.main()
