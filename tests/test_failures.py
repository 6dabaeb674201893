"""[4.1] fates, [4.2] modes, [4.3] why_tested and shows_tested, [4.4] possible_fates, [4.5] facts."""

import unittest

from shellways.errors import InvalidPath, InvalidProgram, InvalidRow, TooLarge
from shellways.failures import fates, modes, possible_fates, shows_tested, why_tested
from shellways.machines import situations
from shellways.plans import all_nodes, plan_of
from shellways.shells import asked_paths
from shellways.texts import read_program
from tests.reference import Told
from tests.samples import sampled
from tests.trees import A, B, FAIL_ON, main, seq
from tests.wrong import NO_PATHS, NO_PROGRAMS, NO_ROWS, assert_error

CAUSES = ("and", "or", "not", "if", "while", "until", "trap")


class Fates(unittest.TestCase):
    def assert_fates(self, text, row, *expected):
        program = read_program(text)
        self.assertEqual(fates(program, row), list(expected), text)
        self.assertEqual(fates(program, tuple(row)), list(expected))

    def test_examples(self):
        self.assert_fates("a ; option fail on ; b", [1, 2], "ignored", "ended")
        self.assert_fates("def g { f && a } option fail on ; call g ; b", [1], "tested")

    def test_zero(self):
        self.assert_fates("option fail on ; a ; ! b", [0, 0], None, None)

    def test_tested(self):
        for text in ("a && b", "a || b", "! a", "if a then b end", "while a do b end", "until a do b end",
                     "! { c ; a }", "! ( a )", "{ a | b } && c", "if status 0 ; a then b end"):
            self.assert_fates("option fail on ; " + text.replace("c ; ", "status 0 ; "), [7], "tested")
            self.assert_fates("trap fail { z } ; " + text.replace("c ; ", "status 0 ; "), [7], "tested")

    def test_checked(self):
        for text in ("a", "status 0 && a", "status 3 || a", "( a )", "a | b", "if status 0 then a end",
                     "while status 0 do a end", "times 2 do a end", "until status 1 do a end"):
            self.assert_fates(text, [7], "ignored")
            self.assert_fates("option fail on ; " + text, [7], "ended")

    def test_trapped(self):
        self.assert_fates("trap fail { z } ; a ; b", [1, 2, 3, 4], "trapped", "tested", "trapped", "tested")
        # The trap comes ahead of the end by the option.
        self.assert_fates("trap fail { z } ; option fail on ; a", [1, 0], "trapped", None)
        self.assert_fates("trap fail off ; trap fail { z } ; trap fail off ; a", [1], "ignored")
        self.assert_fates("trap end { z } ; a", [1, 2], "ignored", "tested")

    def test_open_calls(self):
        self.assert_fates("def f { a } trap fail { z } ; call f", [1, 0], "ignored", None)
        self.assert_fates("def f { a } trap fail { z } ; option fail on ; call f", [1], "ended")
        # No call is open in a new shell, but it has no trap of the outer one.
        self.assert_fates("def f { ( a ) } trap fail { z } ; call f", [1, 0], "ignored", None)
        self.assert_fates("def f { ( trap fail { z } ; a ) } call f", [1, 0], "trapped", None)
        self.assert_fates("trap fail { z } ; ( a ) ; b", [1, 0, 0], "ignored", None, None)

    def test_options_in_new_shells(self):
        self.assert_fates("option fail on ; ( option fail off ; a ; b )", [1, 2], "ignored", "ignored")
        self.assert_fates("( option fail on ; a ) ; b", [1, 2], "ended", "ignored")
        self.assert_fates("option fail on ; a | b", [1, 2], "ended", "ended")

    def test_rows_longer_than_needed(self):
        self.assert_fates("a", [1, 2, 3], "ignored")
        self.assert_fates("status 0", [5, 5])
        self.assert_fates("a ; b", [1], "ignored")
        self.assert_fates("a", [])

    def test_samples(self):
        for program, sampler in sampled(range(800), (6, 12, 25, 50)):
            row = sampler.row(12)
            self.assertEqual(fates(program, row), Told(program, row).walker.fates)


class Modes(unittest.TestCase):
    def assert_modes(self, text, *expected):
        self.assertEqual(modes(read_program(text)), list(expected), text)

    def test_example(self):
        self.assert_modes("def g { f } call g ; ! call g ; b", ((0,), "both"), ((-1, 2), "checked"))

    def test_places(self):
        checked, tested = "checked", "tested"
        self.assert_modes("a && b", ((-1, 0), tested), ((-1, 1), checked))
        self.assert_modes("a || b", ((-1, 0), tested), ((-1, 1), checked))
        self.assert_modes("! a", ((-1, 0), tested))
        self.assert_modes("if a then b else c end", ((-1, 0), tested), ((-1, 1), checked), ((-1, 2), checked))
        self.assert_modes("while a do b end", ((-1, 0), tested), ((-1, 1), checked))
        self.assert_modes("until a do b end", ((-1, 0), tested), ((-1, 1), checked))
        self.assert_modes("times 0 do a end", ((-1, 0), checked))
        self.assert_modes("trap end { a } ; trap fail { b }", ((-1, 0, 0), tested), ((-1, 1, 0), tested))
        self.assert_modes("( a ; b ) | c", ((-1, 0, 0, 0), checked), ((-1, 0, 0, 1), checked), ((-1, 1), checked))
        self.assert_modes("! ( a | b )", ((-1, 0, 0, 0), tested), ((-1, 0, 0, 1), tested))
        self.assert_modes("! if a then b else c end", ((-1, 0, 0), tested), ((-1, 0, 1), tested), ((-1, 0, 2), tested))

    def test_places_alone_count(self):
        self.assert_modes("exit ; a", ((-1, 1), "checked"))
        self.assert_modes("def f { a } status 3 && call f", ((0,), "checked"))

    def test_functions(self):
        self.assert_modes("def f { a } def g { b ; call f } c", ((0,), "never"), ((1, 0), "never"), ((-1,), "checked"))
        self.assert_modes("def f { a } def g { ! call f } call g", ((0,), "tested"))
        self.assert_modes("def f { a } def g { ! call f } call f", ((0,), "checked"))
        self.assert_modes("def f { a } def g { call f } def h { call g && call f } ! call h ; call g",
                          ((0,), "both"))
        self.assert_modes("def f { a } trap end { call f }", ((0,), "tested"))
        self.assert_modes("def f { ! a ; b } call f", ((0, 0, 0), "tested"), ((0, 1), "checked"))
        # The trap tree may be in a function that is called checked, its body is tested.
        self.assert_modes("def f { trap fail { a } } call f", ((0, 0), "tested"))

    def test_many_calls(self):
        names = [chr(97 + number) for number in range(20)]
        text = "def a { x }" + "".join(f" def {new} {{ call {old} ; ! call {old} }}" for old, new in zip(names, names[1:10]))
        self.assert_modes(text + " call j", ((0,), "both"))


def reasons(program, path):
    """All tuples (cause, calls) for a run."""
    plan = plan_of(program)
    nodes = all_nodes(plan)
    reached, coming = {-1}, [-1]
    while coming:
        number = coming.pop()
        for node in nodes:
            if node.word == "call" and node.path[0] == number:
                called = plan.bodies[node.tree[1]].path[0]
                if called not in reached:
                    reached.add(called)
                    coming.append(called)
    found, chains = [], [((), path)]
    while chains:
        calls, first = chains.pop()
        for node in nodes:
            if node.word in CAUSES and node.path[0] in reached and first[:len(node.path) + 1] == node.path + (0,):
                found.append((node.path, calls))
            if node.word == "call" and plan.bodies[node.tree[1]].path[0] == first[0]:
                chains.append(((node.path,) + calls, node.path))
    return found


class WhyTested(unittest.TestCase):
    def assert_why(self, text, path, expected):
        program = read_program(text)
        self.assertEqual(why_tested(program, path), expected, text)
        self.assertIs(shows_tested(program, path, expected), expected is not None)

    def test_example(self):
        self.assert_why("def g { f } call g ; ! call g ; b", (0,), ((-1, 1), ((-1, 1, 0),)))

    def test_without_calls(self):
        for text in ("a && b", "a || b", "! a", "if a then b end", "while a do b end", "until a do b end", "trap end { a }",
                     "trap fail { a }"):
            self.assert_why(text, (-1, 0), ((-1,), ()))
        for text in ("b && a", "b || a", "if b then a end", "while b do a end", "until b do a end"):
            self.assert_why(text, (-1, 1), None)
        self.assert_why("( a )", (-1, 0), None)
        self.assert_why("! ( b ; { a | c } )", (-1, 0, 0, 1, 0), ((-1,), ()))

    def test_never_reached(self):
        self.assert_why("def f { ! a } b", (0, 0), None)
        self.assert_why("def f { a } def g { ! call f } b", (0,), None)
        self.assert_why("def f { a } def g { ! call f } call f", (0,), None)

    def test_cause_in_function(self):
        self.assert_why("def f { ! a } call f", (0, 0), ((0,), ()))
        self.assert_why("def f { a } def g { ! call f } call g", (0,), ((1,), ((1, 0),)))

    def test_several_calls(self):
        self.assert_why("def f { b ; a } def g { call f } def h { call g } ! call h", (0, 1),
                        ((-1,), ((-1, 0), (2,), (1,))))

    def test_fewest_calls(self):
        text = "def f { a } def g { call f } def h { call f } trap end { call g } ; call h && b ; if call f then b end"
        self.assert_why(text, (0,), ((-1, 2), ((-1, 2, 0),)))

    def test_second_call_in_one_function(self):
        self.assert_why("def f { a } def g { call f ; ! call f } call g", (0,), ((1, 1), ((1, 1, 0),)))

    def test_body_of_trap_in_tested_part(self):
        program = read_program("def f { a } if trap end { call f } then b end")
        for cause in ((-1,), (-1, 0)):
            self.assertTrue(shows_tested(program, (0,), (cause, ((-1, 0, 0),))))

    def test_samples(self):
        tested = 0
        for program, _ in sampled(range(350), (6, 12, 25, 40)):
            for path, mode in modes(program):
                found = reasons(program, path)
                paper = why_tested(program, path)
                self.assertEqual(paper is None, mode not in ("tested", "both"))
                self.assertEqual(paper is None, not found)
                if paper is not None:
                    tested += 1
                    self.assertIn(paper, found)
                    self.assertEqual(len(paper[1]), min(len(calls) for _, calls in found))
                    self.assertEqual([type(part) for part in paper], [tuple, tuple])
                    for reason in found[:50]:
                        self.assertIs(shows_tested(program, path, reason), True)
        self.assertGreater(tested, 200)

    def test_twenty_functions(self):
        names = [chr(97 + number) for number in range(20)]
        text = "def a { x }" + "".join(f" def {new} {{ call {old} }}" for old, new in zip(names, names[1:]))
        program = read_program(text + " ! call t")
        expected = ((-1,), ((-1, 0),) + tuple((number,) for number in range(19, 0, -1)))
        self.assertEqual(why_tested(program, (0,)), expected)
        self.assertTrue(shows_tested(program, (0,), expected))


class ShowsTested(unittest.TestCase):
    def setUp(self):
        self.program = read_program("def f { a ; c } def g { call f ; ! call f } def u { ! call f } "
                                    "trap end { call g } ; call g && b ; ! { b ; call f }")

    def test_right(self):
        for cause, calls in (((1, 1), ((1, 1, 0),)), ((-1, 0), ((-1, 0, 0), (1, 0))), ((-1, 1), ((-1, 1, 0), (1, 0))),
                             ((-1, 1), ((-1, 1, 0), (1, 1, 0))), ((-1, 2), ((-1, 2, 0, 1),))):
            self.assertIs(shows_tested(self.program, (0, 0), (cause, calls)), True)
            self.assertIs(shows_tested(self.program, (0, 1), (cause, calls)), True)

    def test_wrong(self):
        right = ((-1, 1), ((-1, 1, 0), (1, 0)))
        wrong = [
            # A function that is not reached, a call in no tested part, a chain with gaps, no chain.
            ((2,), ((2, 0),)), ((-1, 1), ((-1, 1, 0),)), ((-1, 1), ((1, 0),)), ((-1, 1), ()), ((-1, 2), ((1, 0),)),
            ((-1, 1), ((-1, 1, 0), (1, 0), (1, 0))), ((-1, 1), ((1, 0), (-1, 1, 0))), ((-1, 2), ((-1, 1, 0), (1, 0))),
            # Causes of other kinds, and paths that are none.
            ((-1,), right[1]), ((0,), right[1]), ((1, 0), right[1]), ((1,), right[1]), ((-1, 1, 0), right[1]),
            (None, right[1]), ((-1, 9), right[1]), ((True,), right[1]), ([-1, 1], right[1]), ((), right[1]), ({}, right[1]),
            # Calls that are none.
            ((-1, 1), ((-1, 1, 1),)), ((-1, 1), ((-1, 1), (1, 0))), ((-1, 1), ((-1, 1, 0), (1, 1))), ((-1, 1), None),
            ((-1, 1), [(-1, 1, 0), (1, 0)]), ((-1, 1), ((-1, 1, 0), [1, 0])), ((-1, 1), ((-1, 1, 0), None)),
            ((-1, 1), ((-1, 1, False), (1, 0))), ((-1, 1), {}), ((-1, 1), "calls"), ((-1, 1), ((-1, 1, 0), (1, 0), ())),
        ]
        for paper in wrong + [None, True, 3, "paper", (), right[:1], right + ((),), list(right), {right[0]: right[1]},
                              {1, 2}, object(), b"ab", "ab", range(2)]:
            self.assertIs(shows_tested(self.program, (0, 0), paper), False, paper)
        self.assertIs(shows_tested(self.program, (0, 0), right), True)

    def test_tested_part_alone(self):
        program = read_program("a && b ; if c then d end ; trap fail off")
        for cause, path in (((-1, 0), (-1, 0, 1)), ((-1, 1), (-1, 1, 1)), ((-1, 2), (-1, 0, 0)), ((-1, 0), (-1, 1, 0))):
            self.assertIs(shows_tested(program, path, (cause, ())), False)
        self.assertIs(shows_tested(program, (-1, 0, 0), ((-1, 0), ())), True)


class PossibleFates(unittest.TestCase):
    def assert_fates(self, text, *expected):
        self.assertEqual(possible_fates(read_program(text)), list(expected), text)

    def test_example(self):
        self.assert_fates("if a then option fail on end ; b", ((-1, 0, 0), ("tested",)), ((-1, 1), ("ended", "ignored")))

    def test_all_words(self):
        text = "def f { a } if b then option fail on else if b then trap fail { z } end end ; call f ; ! call f ; " \
               "times 2 do c ; trap fail { z } end"
        self.assert_fates(text, ((0,), ("ended", "ignored", "tested")), ((-1, 0, 0), ("tested",)),
                          ((-1, 0, 2, 0), ("tested",)), ((-1, 0, 2, 1, 0), ("tested",)),
                          ((-1, 3, 0, 0), ("ended", "ignored", "trapped")), ((-1, 3, 0, 1, 0), ("tested",)))

    def test_never_asked(self):
        self.assert_fates("exit ; a", ((-1, 1), ()))
        self.assert_fates("def f { a } b", ((0,), ()), ((-1,), ("ignored",)))
        self.assert_fates("trap fail { z } ; a && b", ((-1, 0, 0), ("tested",)), ((-1, 1, 0), ("tested",)),
                          ((-1, 1, 1), ("trapped",)))
        self.assert_fates("status 0")

    def test_samples(self):
        """Over all rows up to a length, the same words; and the facts."""
        for program, _ in sampled(range(300), (6, 12, 25)):
            if situations(program) > 40:
                continue
            found, rows = {}, [[]]
            for row in rows:
                told = Told(program, row)
                if row and row[-1]:
                    found.setdefault(told.told[-1][1], set()).add(told.walker.fates[-1])
                if told.outcome[0] == "asks" and len(row) < 5:
                    rows += [row + [0], row + [1]]
            for (path, words), (place, mode) in zip(possible_fates(program), modes(program)):
                self.assertEqual(path, place)
                self.assertEqual(words, tuple(sorted(words)))
                self.assertLessEqual(found.get(path, set()), set(words))
                if "tested" in words:
                    self.assertIn(mode, ("tested", "both"))
                if set(words) - {"tested"}:
                    self.assertIn(mode, ("checked", "both"))

    def test_all_rows(self):
        program = read_program("def f { a ; b || c } trap fail { z } ; while d do option fail on ; call f ; ( b ) end ; e")
        found, rows = {}, [[]]
        for row in rows:
            if row and row[-1] and len(asked_paths(program, row)) == len(row):
                found.setdefault(asked_paths(program, row)[-1], set()).add(fates(program, row)[-1])
            if len(row) < 8 and len(asked_paths(program, row + [0])) == len(row) + 1:
                rows += [row + [0], row + [1]]
        self.assertEqual({path: set(words) for path, words in possible_fates(program) if words}, found)


class Errors(unittest.TestCase):
    def test_programs(self):
        for value, path in NO_PROGRAMS:
            for function, arguments in ((fates, (None,)), (modes, ()), (why_tested, (None,)), (possible_fates, ()),
                                        (shows_tested, (None, None))):
                assert_error(self, InvalidProgram, path, function, value, *arguments)

    def test_rows(self):
        for row, index in NO_ROWS:
            assert_error(self, InvalidRow, index, fates, main(A), row)

    def test_paths(self):
        program = read_program("def f { a } call f ; ! b")
        for path in NO_PATHS + ((-1,), (-1, 0), (-1, 1), (1,), (0, 0), [0], (-1, 1, 1)):
            assert_error(self, InvalidPath, path, why_tested, program, path)
            assert_error(self, InvalidPath, path, shows_tested, program, path, None)
            assert_error(self, InvalidPath, path, shows_tested, program, path, ((-1, 1), ()))

    def test_too_large(self):
        large = main(("times", 999, A))
        assert_error(self, TooLarge, 1000, possible_fates, large)
        self.assertEqual(possible_fates(main(("times", 998, A))), [((-1, 0), ("ignored",))])
        self.assertEqual(modes(large), [((-1, 0), "checked")])
        self.assertIsNone(why_tested(large, (-1, 0)))

    def test_keywords_and_new_lists(self):
        program = main(seq(FAIL_ON, ("and", A, B)))
        fates(program=program, row=[1]).clear()
        self.assertEqual(fates(program=program, row=[1]), ["tested"])
        modes(program=program).clear()
        self.assertEqual(len(modes(program)), 2)
        possible_fates(program=program).clear()
        self.assertEqual(len(possible_fates(program)), 2)
        paper = why_tested(program=program, path=(-1, 1, 0))
        self.assertIs(shows_tested(program=program, path=(-1, 1, 0), paper=paper), True)


if __name__ == "__main__":
    unittest.main()
