"""Arguments of all functions: their names, several invalid ones at once, nothing changes, results are new."""

import copy
import inspect
import unittest

from shellways import (
    alike, bounds, can, chances, covers, errors, failures, kept, live, logs, loops, machines, pipes, programs, rewriting, shares,
    shells, texts, traps,
)
from shellways.live import Live
from shellways.texts import read_program
from tests.trees import A, B, main

# The headings of the document, module by module.
HEADINGS = {
    programs: "check_program(program), program_size(program), command_names(program)",
    texts: "program_text(program), read_program(text)",
    shells: "run(program, row), asked_paths(program, row)",
    loops: "targets(program), begun_trees(program), first_row(program, path), ways_out(program, path), ends(program)",
    failures: "fates(program, row), modes(program), why_tested(program, path), shows_tested(program, path, paper), "
              "possible_fates(program)",
    pipes: "new_shells(program), needless(program), without_needless(program)",
    traps: "trap_paths(program), first_rows(program), spelled_fail(program), spelled_end(program)",
    kept: "tellings(program), gives_back(program, which), live_variables(program), needless_sets(program), "
          "without_sets(program), fewest_variables(program)",
    machines: "machine(program), situations(program), after(program, row), check_machine(program, rows)",
    alike: "alike(program, other), parting_row(program, other), shows_parting(program, other, row), alike_paper(program, other), "
           "shows_alike(program, other, paper), fewest_failures(program, other), alike_if_sure(program, other, names), "
           "least_sure(program, other), filled(program, name, tree), alike_in(program, name, tree, other)",
    can: "way_to(program, name), way_to_end(program, status), way_to_silence(program), surely(program, name), "
         "escape(program, name), shows_surely(program, name, thing), hardiness(program), deaf(program), "
         "unnoticed(program, name), fate(program, row), sealed(program, row)",
    shares: "least_share(program), potentials(program), shows_share(program, top, bottom, thing)",
    chances: "outcome_chances(program, chances), mean_asked(program, chances), chance_within(program, chances, count), "
             "rows_counted(program, count), failed_before(program, chances, outcome)",
    rewriting: "without_functions(program), without_fail(program), flat(program), first_cut(program), leaned(program), "
               "guarded(program)",
    bounds: "least_chance(program, ranges, goal), greatest_chance(program, ranges, goal), upper_paper(program, ranges, goal), "
            "shows_at_most(program, ranges, goal, bound, paper), lower_paper(program, ranges, goal), "
            "shows_at_least(program, ranges, goal, bound, paper), worst_choices(program, ranges, goal)",
    logs: "fits(program, log, outcome), lost(program, log, outcome), explained(program, log, outcome), "
          "explains(program, log, outcome, thing), explanations(program, log, outcome), sure(program, log, outcome)",
    covers: "tests(program), apart(program), takes_all(program, rows), are_apart(program, steps)",
    live: "Live(program), same_future(live, other)",
}

PROGRAM = read_program("def g { a && b } keep y ; put y 0 ; option fail on ; until call g do c ; keep x end ; give x ; ( b )")
VALUES = {
    "row": [3, 0], "path": (-1, 3, 0), "text": "a ; b", "name": "a", "status": 3, "which": "last", "names": ["a", "b"], "tree": ("sub", B),
    "thing": [1, 0, 0], "paper": [(0, 0, ())], "top": 1, "bottom": 3, "count": 4, "goal": "well", "bound": (1, 2), "log": [("a", None)],
    "outcome": ("ended", 0), "steps": [(0, True)], "rows": [[1], [0]], "chances": {"a": (1, 2), "b": (1, 3), "c": (2, 5)},
    "ranges": {"a": ((1, 4), (1, 2)), "b": ((0, 1), (1, 3)), "c": ((1, 1), (1, 1))},
}


def calls():
    """All functions with arguments that they take, as dicts."""
    for module, headings in HEADINGS.items():
        for heading in headings.split("), "):
            name, parameters = heading.rstrip(")").split("(")
            given = {}
            for parameter in parameters.split(", "):
                value = PROGRAM if parameter == "program" else VALUES.get(parameter)
                if parameter in ("live", "other") and module is live:
                    value = Live(PROGRAM)
                elif parameter == "other":
                    value = main(A, B)
                if parameter == "name" and name in ("filled", "alike_in"):
                    value = "c"
                if name == "alike_in" and parameter == "other":
                    value = A
                if name.startswith("spelled"):
                    kind = name.split("_")[1]
                    value = main(("trap", kind, A), B, ("if", B, A, None))
                if name == "check_machine" and parameter == "rows":
                    value = machines.machine(PROGRAM)
                if name in ("why_tested", "shows_tested") and parameter == "path":
                    value = (0, 0)
                given[parameter] = value
            yield getattr(module, name), given


class Arguments(unittest.TestCase):
    def test_names_and_places(self):
        for module, headings in HEADINGS.items():
            for heading in headings.split("), "):
                name, parameters = heading.rstrip(")").split("(")
                function = vars(module)[name]
                self.assertEqual(function.__module__, module.__name__)
                found = inspect.signature(function).parameters.values()
                self.assertEqual([part.name for part in found], parameters.split(", "))
                self.assertEqual({part.kind for part in found}, {inspect.Parameter.POSITIONAL_OR_KEYWORD})
                self.assertEqual({part.default for part in found}, {inspect.Parameter.empty})

    def test_methods_of_live(self):
        for name, parameters in (("command", []), ("command_path", []), ("outcome", []), ("tell", ["status"]), ("told", []),
                                 ("__len__", []), ("back", ["count"]), ("copied", []), ("__eq__", ["other"]), ("__str__", [])):
            self.assertEqual(list(inspect.signature(vars(Live)[name]).parameters), ["self"] + parameters)

    def outcome_of(self, function, *arguments, **named):
        try:
            return "returned", function(*arguments, **named)
        except errors.ShellError as error:
            return type(error), list(vars(error).values())

    def test_keywords_and_same_results(self):
        seen = 0
        for function, given in calls():
            first = self.outcome_of(function, *given.values())
            self.assertEqual(first[0], "returned", (function, first))
            for _ in range(2):
                again = self.outcome_of(function, **dict(reversed(given.items())))
                self.assertEqual(repr(first) if function is not Live else None, repr(again) if function is not Live else None)
            self.assertEqual(first, again)
            seen += 1
        self.assertEqual(seen, sum(len(headings.split("), ")) for headings in HEADINGS.values()))

    def test_nothing_that_is_passed_changes(self):
        for function, given in calls():
            if "live" in given:
                before = [str(given["live"]), given["live"].told()]
                function(**given)
                self.assertEqual([str(given["live"]), given["live"].told()], before)
                continue
            before = copy.deepcopy(given)
            function(**given)
            self.assertEqual(before, given)
            self.assertEqual(repr(before), repr(given))

    def test_results_are_new(self):
        for function, given in calls():
            first, second = function(**given), function(**given)
            if function is not Live:
                self.assertEqual(repr(first), repr(second))
            self.check_new(first, second, list(given.values()))
            self.spoil(first)
            self.assertEqual(second, function(**given))

    def check_new(self, first, second, given):
        if isinstance(first, (list, dict)):
            self.assertIsNot(first, second)
            for value in given:
                self.assertIsNot(first, value)
        if isinstance(first, (list, tuple)):
            for one, other in zip(first, second):
                self.check_new(one, other, given)
        elif isinstance(first, dict):
            for key in first:
                self.check_new(first[key], second[key], given)

    def spoil(self, value):
        """Changes all lists and dicts of a result: later results must not notice."""
        if isinstance(value, (list, tuple)):
            for part in value:
                self.spoil(part)
        elif isinstance(value, dict):
            for part in value.values():
                self.spoil(part)
        if isinstance(value, (list, dict)):
            value.clear()

    def test_lists_and_tuples_are_the_same_where_both_are_accepted(self):
        for function, given in calls():
            for name in ("row", "names", "log", "paper"):
                if name in given and isinstance(given[name], list) and function.__name__ not in ("shows_at_most", "shows_at_least"):
                    other = {**given, name: tuple(given[name])}
                    self.assertEqual(repr(function(**given)), repr(function(**other)), function)

    def test_all_arguments_invalid(self):
        """The first parameter decides."""
        for function, given in calls():
            wrong = {name: None for name in given}
            found = self.outcome_of(function, **wrong)
            if "live" in given:
                self.assertEqual(found, (errors.Mismatch, ["live"]))
            elif "text" in given:
                self.assertEqual(found, (errors.InvalidText, [-1]))
            else:
                self.assertEqual(found, (errors.InvalidProgram, [()]), function)
            if "program" in given and len(given) > 1 and "other" not in given:
                found = self.outcome_of(function, **{**wrong, "program": PROGRAM})
                self.assertNotIn(found[0], (errors.InvalidProgram, errors.TooLarge), function)


if __name__ == "__main__":
    unittest.main()
