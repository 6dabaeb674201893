"""What different modules say of one program agrees."""

import unittest
from fractions import Fraction

from shellways.bounds import greatest_chance, least_chance
from shellways.can import deaf, escape, fate, hardiness, sealed, surely, unnoticed, way_to, way_to_end, way_to_silence
from shellways.chances import failed_before, mean_asked, outcome_chances, rows_counted
from shellways.covers import tests
from shellways.errors import TooLarge
from shellways.kept import gives_back, tellings
from shellways.live import Live
from shellways.logs import explained, explains, explanations, fits, lost, sure
from shellways.loops import begun_trees, ends, first_row
from shellways.machines import after, machine
from shellways.programs import command_names
from shellways.rewriting import flat
from shellways.shares import least_share
from shellways.shells import asked_paths, run
from shellways.texts import program_text, read_program
from shellways.traps import first_rows, trap_paths
from tests.brute import rows_of, told
from tests.follow import small_samples

NAMES = ("a", "b", "c")


def programs():
    return small_samples(range(300, 420), most=30)


class Agreement(unittest.TestCase):
    def test_what_can_happen_has_a_chance(self):
        for program in programs():
            names = command_names(program)[0]
            chances = {name: (2, 7) for name in names}
            found = outcome_chances(program, chances)
            numbers = [entry[1] for entry in machine(program) if entry[0] == "end"]
            for number in (0, 1, 3, 5, 9, 255):
                self.assertEqual(way_to_end(program, number) is not None, number in numbers or (number > 0 and "slot" in numbers))
                self.assertEqual(("ended", number) in found, number in numbers)
            self.assertEqual(("silent",) in found, way_to_silence(program) is not None)
            self.assertEqual(any(outcome[0] == "failed" for outcome in found), "slot" in numbers)
            means = mean_asked(program, chances)
            self.assertEqual(means is None, ("endless",) in found)
            for name in NAMES:
                way = way_to(program, name)
                if means is not None and name in names:
                    self.assertEqual(means[name] > (0, 1), way is not None)
                    if surely(program, name) is not None:
                        self.assertGreaterEqual(Fraction(*means[name]), 1)
                row = unnoticed(program, name)
                if row is not None:
                    self.assertGreater(failed_before(program, chances, ("ended", 0))[name], (0, 1))
            if least_share(program) == ("finite",):
                self.assertNotIn(("endless",), found)

    def test_chances_between_0_and_1(self):
        for program in programs():
            ranges = {name: ((1, 9), (7, 8)) for name in command_names(program)[0]}
            fates = fate(program, [])
            well = least_chance(program, ranges, "well"), greatest_chance(program, ranges, "well")
            self.assertEqual(fates == "bad", well[1] == (0, 1))
            outcomes = outcome_chances(program, {name: (1, 2) for name in ranges})
            # A chance of 1 whatever the chances are: nothing else can happen but with the chance 0.
            self.assertEqual(well[0] == (1, 1), set(outcomes) == {("ended", 0)})
            if fates == "good":
                self.assertEqual(well[0], (1, 1))
            certain = least_chance(program, {name: ((0, 1), (1, 1)) for name in ranges}, "well")
            self.assertEqual(certain == (1, 1), fates == "good")
            self.assertIn(certain, ((0, 1), (1, 1)))
            ended = Fraction(*least_chance(program, ranges, "ends"))
            self.assertEqual(ended == 1, not {outcome[0] for outcome in outcomes} & {"silent", "endless"})

    def test_no_failures(self):
        """Without failures a program does not end well exactly if its hardiness is 0."""
        for program in programs():
            never = {name: (0, 1) for name in command_names(program)[0]}
            found = hardiness(program)
            self.assertEqual(found is not None and found[0] == 0, outcome_chances(program, never) != {("ended", 0): (1, 1)})
            if found is not None and not found[2]:
                self.assertNotEqual(fate(program, found[1]), "good")

    def test_log_of_a_run_explains_itself(self):
        for program in programs():
            for row, (names, outcome) in rows_of(program, 4):
                row = told(row)
                log = list(zip(names, row))
                end = ("asks",) if outcome[0] == "asks" else outcome[:2] if outcome[0] == "ended" else None
                for known in (None, end):
                    self.assertEqual([fits(program, log, known), lost(program, log, known), explanations(program, log, known)], [None, 0, 1])
                    thing = [(name, value, True) for name, value in log]
                    self.assertEqual(explained(program, log, known), thing)
                    self.assertTrue(explains(program, log, known, thing))
                    self.assertEqual(sure(program, log, known), ["failed" if value else "well" for value in row])

    def test_counts_and_explanations(self):
        """Without a log, explanations are the shortest rows to an outcome."""
        for program in programs():
            for outcome, wanted in ((("ended", 0), lambda key: key == ("ended", 0)), (("asks",), lambda key: key == ("asks",)),
                                    (("ended", None), lambda key: key[0] in ("ended", "failed"))):
                many = lost(program, [], outcome)
                for count in range(12 if many is None else many + 1):
                    found = sum(value for key, value in rows_counted(program, count).items() if wanted(key))
                    self.assertEqual(found, explanations(program, [], outcome) if count == many else 0)

    def test_sealed_rows(self):
        for program in programs():
            for row, (_, outcome) in rows_of(program, 3):
                many = sealed(program, row)
                if many is not None:
                    self.assertEqual(fate(program, row[:many]), fate(program, row))
                elif outcome[0] != "asks":
                    self.fail("a program that has ended is not open")

    def test_lives_and_machines(self):
        for program in programs():
            for row, (_, outcome) in rows_of(program, 3):
                live = Live(program)
                for value in told(row):
                    live.tell(value)
                entry = machine(program)[after(program, told(row))[0]]
                self.assertEqual(live.command_path(), entry[1] if entry[0] == "ask" else None)
                self.assertEqual(live.outcome(), outcome)

    def test_ways_out_and_rows(self):
        for program in programs():
            begun = begun_trees(program)
            for row, _ in rows_of(program, 3):
                for path in asked_paths(program, told(row)):
                    self.assertIn(path, begun)
            for path, row in zip([path for path, _ in trap_paths(program)], first_rows(program)):
                self.assertEqual(first_row(program, path + (0,)), row)
            outcomes = outcome_chances(program, {name: (1, 2) for name in command_names(program)[0]})
            if {outcome[0] for outcome in outcomes} & {"ended", "failed"}:
                self.assertTrue(ends(program))
            for word, row in tellings(program).items():
                end = run(program, told(row))[1]
                self.assertEqual([end[0], end[1] >= 1000], ["ended", word not in ("number", "lost")])

    def test_gives_back(self):
        for program in programs():
            row = gives_back(program, "last")
            if row is None and surely(program, "zz") is None and escape(program, "zz")[1] == []:
                for short, (_, outcome) in rows_of(program, 4):
                    if outcome[0] == "ended":
                        failures = [value for value in told(short) if value]
                        self.assertEqual(outcome[1], failures[-1] if failures else 0)

    def test_flat_programs_answer_the_same(self):
        for program in programs():
            other = flat(program)
            for name in NAMES:
                self.assertEqual(way_to(program, name), way_to(other, name))
                self.assertEqual(unnoticed(program, name), unnoticed(other, name))
                self.assertEqual(surely(program, name) is None, surely(other, name) is None)
            self.assertEqual(hardiness(program) is None, hardiness(other) is None)
            self.assertEqual(fate(program, []), fate(other, []))
            self.assertEqual(least_share(program)[:3] if least_share(program)[0] == "share" else least_share(program)[:2],
                             least_share(other)[:3] if least_share(other)[0] == "share" else least_share(other)[:2])
            names = command_names(program)[0]
            chances = {name: (3, 8) for name in names}
            try:
                self.assertEqual(outcome_chances(program, chances), outcome_chances(other, chances))
            except TooLarge:
                pass
            self.assertEqual(read_program(program_text(other)), other)

    def test_tests_take_all_runs(self):
        for program in programs():
            asked = set()
            try:
                rows = tests(program)
            except TooLarge:
                continue
            for row in rows:
                asked |= set(run(program, told(row))[0])
            self.assertEqual(asked, {name for name in NAMES if way_to(program, name) is not None})
            self.assertEqual(len(deaf(program)) > 0 and not rows, False)


if __name__ == "__main__":
    unittest.main()
