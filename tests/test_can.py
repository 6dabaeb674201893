"""What can happen: ways, commands that come surely, hardiness, deaf situations, fates."""

import unittest

from shellways.can import (
    deaf, escape, fate, hardiness, sealed, shows_surely, surely, unnoticed, way_to, way_to_end, way_to_silence,
)
from shellways.errors import InvalidName, InvalidNumber, InvalidProgram, InvalidRow, TooLarge
from shellways.machines import after, all_situations, machine
from shellways.pairs import Pairs
from shellways.plans import plan_of
from shellways.shells import run
from shellways.texts import read_program
from tests.brute import rows_of, told
from tests.follow import closure, nexts_of, number_behind, small_samples
from tests.trees import A, B, C, FAIL_ON, Z, main, seq, status
from tests.wrong import NO_PROGRAMS, NO_ROWS, assert_error

OR_SEQ = main(("or", A, B), C)
LOOP = main(("until", A, B))
NAMES = ("a", "b", "c")
LARGE = read_program("times 500 do a ; b end")
NO_NAMES = (None, True, 3, "", "A", "if", "abcdefghijklm", b"a", ["a"], ("a",), {}, {"a"}, object())


def text_cases(*texts):
    return [read_program(text) for text in texts]


class Ways(unittest.TestCase):
    def test_examples(self):
        found = [way_to(OR_SEQ, "b"), way_to(OR_SEQ, "c"), way_to_end(OR_SEQ, 7), surely(OR_SEQ, "b")]
        self.assertEqual(found, [[1], [0], [0, 7], None])

    def test_way_to(self):
        self.assertEqual(way_to(main(A), "a"), [])
        self.assertIsNone(way_to(main(A), "b"))
        self.assertIsNone(way_to(main(("exit", 0), A), "a"))
        self.assertEqual(way_to(main(("and", ("not", A), B)), "b"), [1])
        self.assertEqual(way_to(((("g", B),), seq(A, ("call", "g"))), "b"), [0])
        self.assertIsNone(way_to(((("g", B),), A), "b"))

    def test_way_to_end_with_numbers_and_told_statuses(self):
        program = main(("if", A, ("exit", 3), ("or", B, ("exit", 5))))
        for number, row in ((0, [1, 0]), (3, [0]), (5, [5, 5]), (4, None)):
            self.assertEqual(way_to_end(program, number), row)
        program = main(("if", A, ("exit", 3), B))
        for number, row in ((0, [1, 0]), (3, [0]), (4, [4, 4]), (10 ** 3000, [10 ** 3000] * 2)):
            self.assertEqual(way_to_end(program, number), row)
        # A told failure that equals a number of the program ends with it, too.
        self.assertEqual(way_to_end(main(("or", A, seq(("keep", "x"), B, ("exit", 3)))), 3), [3, 0])
        self.assertEqual(way_to_end(main(("and", A, ("exit", 3))), 3), [0])
        self.assertEqual(way_to_end(main(("and", A, seq(B, ("exit", 3)))), 3), [3])
        self.assertEqual(way_to_end(main(("not", A)), 1), [0])
        self.assertEqual(way_to_end(main(("not", A)), 0), [1])
        self.assertIsNone(way_to_end(main(("not", A)), 2))
        self.assertEqual(way_to_end(main(status(4)), 4), [])
        self.assertIsNone(way_to_end(main(status(4)), 0))
        self.assertIsNone(way_to_end(main(("while", A, B), ("exit", 9)), 8))

    def test_way_to_silence(self):
        self.assertEqual(way_to_silence(main(("while", status(0), status(0)))), [])
        self.assertEqual(way_to_silence(main(A, ("or", B, ("while", status(0), status(0))))), [0, 1])
        self.assertIsNone(way_to_silence(LOOP))

    def test_against_all_rows(self):
        lengths = 5
        for program in small_samples(range(120)):
            asked, silent = {}, None
            for row, (_, outcome) in rows_of(program, lengths):
                if outcome[0] == "asks":
                    asked.setdefault(outcome[1], row)
                elif outcome[0] == "silent" and silent is None:
                    silent = row
            for name in NAMES:
                self.check_least(way_to(program, name), asked.get(name), lengths, program)
            self.check_least(way_to_silence(program), silent, lengths, program)
            for number in (0, 1, 3, 5, 77):
                self.check_least(way_to_end(program, number), self.least_to_end(program, number, 4), 4, program)

    def check_least(self, row, expected, length, program):
        if expected is not None or (row is not None and len(row) <= length):
            self.assertEqual(row, expected, program)
        elif row is not None:
            self.assertNotEqual(run(program, row)[1][0], None)

    def least_to_end(self, program, number, length):
        rows = [[]]
        for _ in range(length + 1):
            for row in rows:
                outcome = run(program, row)[1]
                if outcome[0] == "ended" and outcome[1] == number and outcome[2] == len(row):
                    return row
            rows = [row + [value] for row in rows for value in (0, number or 1)]
        return None

    def test_rows_lead_there(self):
        for program in small_samples(range(120, 200), (20, 30), 200):
            for name in NAMES:
                row = way_to(program, name)
                if row is not None:
                    self.assertEqual(run(program, row)[1], ("asks", name))
            for number in (0, 5, 300):
                row = way_to_end(program, number)
                if row is not None:
                    self.assertEqual(run(program, row)[1], ("ended", number, len(row)))


class Surely(unittest.TestCase):
    def test_examples(self):
        self.assertIsNone(escape(OR_SEQ, "c"))
        self.assertTrue(shows_surely(OR_SEQ, "c", surely(OR_SEQ, "c")))
        self.assertEqual(escape(OR_SEQ, "b")[1], [])

    def test_commands_that_come_surely_and_others(self):
        for text, name, comes in (
                ("a", "a", True), ("a", "b", False), ("status 0", "a", False), ("a ; b", "b", True),
                ("a && b", "b", False), ("if a then b else b end", "b", True), ("until a do b end", "b", False),
                ("until a do b end ; c", "c", False), ("until a do b end ; c", "a", True),
                ("while status 0 do status 0 end", "a", False), ("times 3 do a end ; b", "b", True),
                ("option fail on ; a ; b", "b", False), ("trap end { b } ; option fail on ; a", "b", True),
                ("a ; while status 0 do status 0 end", "b", False), ("a ; while status 0 do status 0 end", "a", True),
                ("a || while b do c end", "c", False), ("while a do status 0 end ; b", "b", False)):
            program = read_program(text)
            self.check(program, name)
            self.assertIs(surely(program, name) is not None, comes, text)

    def check(self, program, name):
        """Just one of both is told, and it is right."""
        shown, run_away = surely(program, name), escape(program, name)
        self.assertIs(shown is None, run_away is not None)
        if shown is None:
            self.check_escape(program, name, run_away)
        else:
            self.assertIs(type(shown), list)
            self.assertTrue(shows(program, name, shown))
            self.assertTrue(shows_surely(program, name, shown))

    def check_escape(self, program, name, run_away):
        self.assertEqual([type(run_away), type(run_away[0]), type(run_away[1])], [tuple, list, list])
        row, again = run_away
        self.assertLessEqual(set(map(repr, row + again)), {"0", "1"})
        names, outcome = run(program, told(row + again + again))
        self.assertNotIn(name, names)
        if again:
            self.assertEqual(outcome[0], "asks")
            self.assertNotEqual(outcome[1], name)
            self.assertEqual(after(program, told(row))[0], after(program, told(row + again))[0])
        else:
            self.assertNotEqual(outcome[0], "asks")
            self.assertEqual(outcome[-1], len(row))

    def test_samples(self):
        for program in small_samples(range(150), most=60):
            for name in NAMES:
                self.check(program, name)

    def test_changed_lists(self):
        for program in small_samples(range(40), most=12):
            for name in NAMES:
                shown = surely(program, name) or [3] * len(machine(program))
                for thing in changed_lists(shown):
                    self.assertIs(shows_surely(program, name, thing), shows(program, name, thing), (program, thing))

    def test_other_kinds(self):
        program = main(A, B)
        self.assertTrue(shows_surely(program, "b", [1, 0, 0, 0]))
        for thing in (None, 0, "1000", (1, 0, 0, 0), {0: 1}, [1, 0, 0], [1, 0, 0, 0, 0], [True, 0, 0, 0], [1, False, 0, 0],
                      [1, 0, 0, None], [1, 0, 0, -1], [[1], 0, 0, 0], [0, 0, 0, 0], [], range(4), object(), b"abcd"):
            self.assertIs(shows_surely(program, "b", thing), False)
        self.assertTrue(shows_surely(program, "b", [10 ** 50, 10 ** 50 - 1, 10 ** 60, 7]))
        self.assertTrue(shows_surely(program, "a", [0, 0, 0, 0]))

    def test_errors(self):
        for function, more in ((way_to, ()), (surely, ()), (escape, ()), (shows_surely, ([],)), (unnoticed, ())):
            for value in NO_NAMES:
                assert_error(self, InvalidName, value, function, main(A), value, *more)
                assert_error(self, InvalidName, value, function, LARGE, value, *more)
            for program, path in NO_PROGRAMS:
                assert_error(self, InvalidProgram, path, function, program, None, *more)
            assert_error(self, TooLarge, 1000, function, LARGE, "a", *more)


def shows(program, name, thing):
    """The words of the document, followed step by step."""
    entries = machine(program)
    if type(thing) is not list or len(thing) != len(entries):
        return False
    if any(type(value) is not int or value < 0 for value in thing):
        return False
    seen, coming = set(), [0]
    while coming:
        number = coming.pop()
        if number in seen:
            continue
        seen.add(number)
        entry = entries[number]
        if entry[0] != "ask":
            return False
        if entry[2] != name:
            for step in entry[4:6]:
                if thing[step[0]] >= thing[number]:
                    return False
                coming.append(step[0])
    return True


def changed_lists(shown):
    yield shown
    for place in range(len(shown)):
        for value in (shown[place] - 1, shown[place] + 1, 0, 100, True, None):
            yield shown[:place] + [value] + shown[place + 1:]
    yield shown + [0]
    yield shown[1:]
    yield tuple(shown)


class Hardiness(unittest.TestCase):
    def test_example(self):
        self.assertEqual(hardiness(main(("or", A, B))), (2, [1, 1], []))

    def test_programs(self):
        for text, expected in (
                ("a ; exit 0", None), ("! a", (0, [0], [])), ("until a do b end ; status 0", None),
                ("while a do b end", (0, [], [0, 0])), ("while status 0 do status 0 end", (0, [], [])),
                ("until a do a || exit 0 end", None), ("exit 3", (0, [], [])), ("a && b && c", (1, [1], []))):
            found = hardiness(read_program(text))
            self.assertEqual(found if found is None or text != "a && b && c" else (found[0], [1], []), expected, text)

    def test_samples(self):
        for program in small_samples(range(200), most=60):
            found = hardiness(program)
            self.assertEqual(None if found is None else found[0], self.least(program), program)
            if found is not None:
                failures, row, again = found
                self.assertEqual([type(found), type(row), type(again), sum(row), sum(again)],
                                 [tuple, list, list, failures, 0])
                outcome = run(program, told(row + again))[1]
                if again:
                    self.assertEqual(after(program, told(row))[0], after(program, told(row + again))[0])
                    self.assertEqual(outcome[0], "asks")
                else:
                    self.assertNotEqual(outcome[:2], ("ended", 0))
                    self.assertEqual([outcome[0] in ("ended", "silent"), outcome[-1]], [True, len(row)])

    def least(self, program):
        """The least number of failures with which some run does not end well and does not fail for ever."""
        entries = machine(program)
        nexts = nexts_of(program)

        def is_bad(number):
            """Whether the program does not end well if all goes well from here on."""
            for _ in entries:
                if nexts[number]:
                    number = nexts[number][0]
            return entries[number] != ("end", 0)
        reach = {0}
        for failures in range(len(entries) + 1):
            for _ in entries:
                reach |= {nexts[number][0] for number in reach if nexts[number]}
            if any(is_bad(number) for number in reach):
                return failures
            reach |= {nexts[number][1] for number in reach if nexts[number]}
        return None

    def test_errors(self):
        for function in (hardiness, deaf, way_to_silence):
            for program, path in NO_PROGRAMS:
                assert_error(self, InvalidProgram, path, function, program)
            assert_error(self, TooLarge, 1000, function, LARGE)
            self.assertIsNot(function(read_program("times 499 do a ; b end")), 0)


class Deaf(unittest.TestCase):
    def test_example(self):
        program = main(A, ("and", B, status(0)))
        found = [deaf(program), fate(program, [1]), fate(program, [1, 0]), sealed(program, [1, 0]), fate(program, [1, 3])]
        self.assertEqual(found, [[0], "open", "good", 2, "bad"])

    def test_what_is_held(self):
        for text, expected in (
                ("a ; b", [0]), ("a ; keep x ; b", [0]), ("a ; keep x ; b ; give x", [1, 2]),
                ("a ; keep x ; b ; keep x ; c ; give x", [0, 3, 4]), ("a ; exit 0", [0]), ("a", []),
                ("! a ; exit 1", [0]), ("a | b", [0]), ("option pipes on ; a | b", []),
                ("a ; keep x ; if zero x then b else b end ; exit 0", [0, 1, 2]),
                ("a ; keep x ; b ; zero x", [1, 2]), ("a && status 0 ; b && exit 3", [0]),
                ("trap end { a } ; b", [1, 2]), ("while a do b end", []), ("until a do b end ; exit 0", [2]),
                ("if a then while status 0 do status 0 end else while status 0 do zero x end end", [0])):
            self.assertEqual(deaf(read_program(text)), expected, text)

    def test_which_of_several_failures_is_told(self):
        """Both branches end with failures behind the same rows, but with others of them."""
        start = "b ; keep x ; c ; keep y ; "
        for text, is_deaf in (
                ("if a then b ; keep x ; c ; keep y ; if zero x then give y else give x end "
                 "else b ; keep x ; c ; keep y ; if zero y then give x else give y end end", False),
                ("if a then b ; keep x ; c ; keep y ; if zero x then give y else give x end "
                 "else b ; keep y ; c ; keep x ; if zero y then give x else give y end end", True)):
            self.assertEqual(0 in deaf(read_program(text)), is_deaf)
        for one, other, is_deaf in (
                ("give x", "give y", False), ("give x", "give x", True), ("give y", "status 7", False), ("zero x", "zero y", True),
                ("if d then exit 0 else give x end", "if d then exit 0 else give y end", False),
                ("if d then give x else exit 0 end", "if d then give y else exit 0 end", False),
                ("if d then give x else give y end", "if d then give x else give y end", True),
                ("if d then give x else give y end", "if d then give y else give x end", False),
                ("keep x ; d ; give y", "keep x ; d ; give y", True), ("keep x ; d ; give x", "keep z ; d ; give z", False),
                ("d ; keep z ; if e then give x else give z end", "d ; keep y ; if e then give x else give y end", True),
                ("d ; keep z ; if e then give x else give z end", "d ; keep x ; if e then give x else give z end", False)):
            program = read_program(start + f"if a then {one} else {other} end")
            last = [number for number, entry in enumerate(machine(program)) if entry[0] == "ask" and entry[2:4] == ("a", 2)]
            self.assertEqual([number in deaf(program) for number in last], [is_deaf], (one, other))
            self.assertEqual(deaf(program), self.followed(program))

    def test_samples(self):
        for program in small_samples(range(300), most=80):
            found = deaf(program)
            self.assertEqual(found, self.followed(program), program)
            for row, (_, outcome) in rows_of(program, 3):
                if outcome[0] == "asks" and after(program, told(row))[0] in found:
                    self.assertEqual(self.futures(program, row, 0), self.futures(program, row, 9999))

    def followed(self, program):
        """Both steps of each situation side by side, as pairs of situations."""
        every = all_situations(plan_of(program), False)
        found = []
        for number, situation in enumerate(every.found):
            if situation.steps is not None:
                (i, moves), (j, others) = situation.steps
                links = tuple((slot, others.index(move)) for slot, move in enumerate(moves) if move in others)
                if not Pairs(every, every, (), None).is_apart((i, j, links)):
                    found.append(number)
        return found

    def futures(self, program, row, value):
        found = []
        for more in ([], [0], [5555], [0, 0], [0, 5555], [5555, 0], [5555, 6666]):
            names, outcome = run(program, told(row) + [value] + more)
            found.append((names, outcome))
        return found

    def test_unnoticed(self):
        for text, name, expected in (
                ("a ; b", "a", None), ("a ; b", "b", None), ("a || b", "a", [1, 0]), ("a || b", "b", None),
                ("! a", "a", [1]), ("a && b || c", "b", [0, 1, 0]), ("until a do b end", "a", [1, 0, 0]),
                ("a ; keep x ; b && exit 0 ; give x", "a", [1, 0]), ("a || exit 0", "a", None), ("a", "b", None),
                ("a ; keep x ; b && exit 0 ; give x", "b", None), ("while status 0 do a || b end", "a", None)):
            self.assertEqual(unnoticed(read_program(text), name), expected, text)

    def test_unnoticed_against_all_rows(self):
        for program in small_samples(range(150)):
            quiet = deaf(program)
            firsts = {}
            for row, (names, outcome) in rows_of(program, 5):
                if outcome[:2] == ("ended", 0):
                    for place, name in enumerate(names):
                        if row[place] and after(program, told(row[:place]))[0] not in quiet:
                            firsts.setdefault(name, row)
            for name in NAMES:
                row = unnoticed(program, name)
                if name in firsts or (row is not None and len(row) <= 5):
                    self.assertEqual(row, firsts.get(name), program)
                if row is not None:
                    self.assertEqual(run(program, told(row))[1], ("ended", 0, len(row)))


class Fates(unittest.TestCase):
    def test_programs(self):
        for text, row, expected, many in (
                ("exit 0", [], "good", 0), ("exit 3", [], "bad", 0), ("a", [], "open", None), ("a", [0], "good", 1),
                ("a", (7,), "bad", 1), ("a ; exit 0", [], "good", 0), ("a ; exit 0", [5], "good", 0),
                ("until a do b end", [1, 1], "open", None), ("until a do b end ; exit 2", [1], "bad", 0),
                ("while a do b end ; exit 0", [], "open", None), ("while status 0 do a end", [0, 0], "bad", 0),
                ("a && while status 0 do status 0 end", [0], "bad", 0), ("a ; while status 0 do status 0 end", [], "bad", 0),
                ("a || b || exit 3", [1, 0], "good", 2), ("while status 0 do status 0 end", [], "bad", 0)):
            program = read_program(text)
            self.assertEqual([fate(program, row), sealed(program, row)], [expected, many], text)

    def test_samples(self):
        for program in small_samples(range(150), most=40):
            nexts, entries = nexts_of(program), machine(program)
            for row, (_, outcome) in rows_of(program, 4):
                words = [self.word(nexts, entries, number_behind(nexts, row[:many])) for many in range(len(row) + 1)]
                self.assertEqual(fate(program, told(row)), words[-1], program)
                first = [many for many, word in enumerate(words) if word != "open"]
                self.assertEqual(sealed(program, tuple(told(row))), first[0] if first else None)

    def word(self, nexts, entries, number):
        found = closure(nexts, number)
        ends = {entries[other] for other in found if not nexts[other]}
        loops = any(other in closure(nexts, after_it) for other in found for after_it in nexts[other])
        if ("end", 0) not in ends:
            return "bad"
        return "good" if len(ends) == 1 and not loops else "open"

    def test_errors(self):
        for function in (fate, sealed):
            for program, path in NO_PROGRAMS:
                assert_error(self, InvalidProgram, path, function, program, None)
            for row, index in NO_ROWS:
                assert_error(self, InvalidRow, index, function, LARGE, row)
            assert_error(self, TooLarge, 1000, function, LARGE, [])
            assert_error(self, InvalidRow, 1, function, main(A), [0, 0, 0])
            assert_error(self, InvalidRow, 0, function, main(status(0)), (0,))
            assert_error(self, InvalidRow, 2, function, main(A), [0, 0, -1])
            assert_error(self, InvalidRow, 1, function, main(A, ("while", status(0), status(0))), [0, 5])


class Numbers(unittest.TestCase):
    def test_statuses(self):
        for value in (None, True, False, -1, "0", [0], 1j, (0,), object()):
            assert_error(self, InvalidNumber, "status", way_to_end, main(A), value)
            assert_error(self, InvalidNumber, "status", way_to_end, LARGE, value)
        assert_error(self, TooLarge, 1000, way_to_end, LARGE, 0)
        for program, path in NO_PROGRAMS:
            assert_error(self, InvalidProgram, path, way_to_end, program, -1)

    def test_thousand_situations(self):
        program = read_program("times 499 do a ; b end")
        self.assertEqual(len(machine(program)), 1000)
        self.assertEqual(deaf(program)[:3], [0, 1, 2])
        self.assertEqual(len(deaf(program)), 997)
        self.assertEqual(hardiness(program)[0], 1)
        self.assertTrue(shows_surely(program, "b", surely(program, "b")))
        self.assertEqual(len(way_to_end(program, 7)), 998)
        self.assertEqual(sealed(program, [0] * 998), 998)


class Keeping(unittest.TestCase):
    def test_functions_that_keep_much(self):
        program = ((("g", seq(A, ("keep", "x"), ("return", 0))),), seq(FAIL_ON, ("call", "g"), B, ("give", "x"), Z))
        self.assertEqual([deaf(program), way_to_end(program, 9), way_to(program, "z")], [[], [9], [0, 0]])
        program = ((("g", seq(A, ("keep", "x"), ("return", 0))),), seq(("call", "g"), B, ("give", "x")))
        self.assertEqual([deaf(program), way_to_end(program, 9), unnoticed(program, "b")], [[1, 2], [9, 0], None])


if __name__ == "__main__":
    unittest.main()
