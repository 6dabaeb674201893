"""[7.1] tellings, [7.2] gives_back, [7.3] live_variables, [7.4] needless_sets, without_sets, [7.5] fewest_variables."""

import itertools
import unittest

from shellways.alike import alike
from shellways.errors import InvalidName, InvalidProgram, TooLarge
from shellways.kept import fewest_variables, gives_back, live_variables, needless_sets, tellings, without_sets
from shellways.machines import machine, situations
from shellways.plans import plan_of
from shellways.programs import check_program, command_names, program_size
from shellways.texts import program_text, read_program
from shellways.walks import started_walk, tell
from tests.brute import rows_of, told
from tests.samples import Sampler
from tests.trees import A, B, main, seq
from tests.wrong import NO_PROGRAMS, assert_error

KEEPERS = ("keep x", "keep y", "give x", "give y", "zero x", "put x 0", "put y 3", "a", "b", "c", "! a", "exit", "status 3",
           "a && b", "( keep x ; give y )", "if zero x then give y else b end", "option fail on", "a | keep y | give x",
           "trap fail { keep y }", "trap end { give x ; exit }", "times 2 do a ; keep y end", "( a ; keep x ; b ) ; give x",
           "while a do b ; keep x end", "a || keep x")


def keeping(seeds):
    """Programs that keep much."""
    for seed in seeds:
        sampler = Sampler(seed)
        many = sampler.chance.randint(2, 7)
        program = read_program(" ; ".join(sampler.chance.choices(KEEPERS, k=many)))
        if situations(program) <= 60:
            yield program


def small_samples(seeds):
    for seed in seeds:
        program = Sampler(seed).program((6, 12, 25)[seed % 3])
        try:
            check_program(program)
        except InvalidProgram:
            continue
        if situations(program) <= 60:
            yield program


def word_of(row, outcome):
    """What the end behind a row tells."""
    failures = [index for index, bit in enumerate(row) if bit]
    if outcome[1] < 1000:
        return "lost" if failures else "number"
    index = outcome[1] - 1000
    if failures == [index]:
        return "only"
    return "first" if index == failures[0] else "last" if index == failures[-1] else "other"


def least_tellings(program, length):
    found = {}
    for row, (_, outcome) in rows_of(program, length):
        if outcome[0] == "ended" and len(row) == outcome[2]:
            found.setdefault(word_of(row, outcome), row)
    return found


class Tellings(unittest.TestCase):
    def assert_tellings(self, text, **expected):
        self.assertEqual(tellings(read_program(text)), expected, text)

    def test_examples(self):
        self.assertEqual(tellings(((), ("seq", (("run", "a"), ("run", "b"))))),
                         {'last': [1, 1], 'lost': [1, 0], 'number': [0, 0], 'only': [0, 1]})
        keeping = ("or", ("run", "a"), ("seq", (("keep", "x"), ("run", "b"), ("exit", 3))))
        self.assertEqual(tellings(((), ("seq", (keeping, ("give", "x"))))), {'lost': [1, 0], 'number': [0]})

    def test_words(self):
        self.assert_tellings("a ; keep x ; b ; keep y ; c ; give x", number=[0, 0, 0], lost=[0, 0, 1], only=[1, 0, 0], first=[1, 0, 1])
        self.assert_tellings("a ; keep x ; b ; keep y ; c ; give y", number=[0, 0, 0], lost=[0, 0, 1], only=[0, 1, 0],
                             first=[0, 1, 1], last=[1, 1, 0], other=[1, 1, 1])
        self.assert_tellings("status 3", number=[])
        self.assert_tellings("a && status 3", number=[0], only=[1])
        self.assert_tellings("! a", number=[0], lost=[1])
        self.assert_tellings("while status 0 do a end")

    def test_failure_that_is_equal_to_an_earlier_one(self):
        # The number does not matter, but the place where it was told.
        self.assert_tellings("a ; keep x ; b ; zero x && give x", number=[0, 0], lost=[0, 1])

    def test_loops_traps_shells(self):
        program = read_program("while a do b end")
        self.assertEqual(tellings(program), least_tellings(program, 7))
        self.assert_tellings("trap end { z } ; a", number=[0, 0], lost=[0, 1], only=[1, 0], first=[1, 1])
        self.assert_tellings("( a ; keep x ; b )", number=[0, 0], only=[0, 1], lost=[1, 0], last=[1, 1])

    def test_samples(self):
        words = {}
        for program in itertools.chain(keeping(range(250)), small_samples(range(250))):
            found = tellings(program)
            self.assertEqual({word: row for word, row in found.items() if len(row) <= 7}, least_tellings(program, 7), program)
            for word in found:
                words[word] = words.get(word, 0) + 1
        self.assertGreater(min(words.values()), 3)
        self.assertEqual(len(words), 6)

    def test_new(self):
        program = main(A)
        tellings(program=program)["only"].append(3)
        self.assertEqual(tellings(program), {"number": [0], "only": [1]})


class GivesBack(unittest.TestCase):
    def test_words(self):
        for text, first, last in (("a", None, None), ("a ; b", [1, 0], [1, 0]), ("a && b", None, None), ("! a", [0], [0]),
                                  ("option fail on ; a ; b ; c", None, None), ("a ; keep x ; b ; give x", [0, 1], [0, 1]),
                                  ("a || { keep x ; b ; give x }", None, [1, 1]), ("status 3", [], []), ("status 0", None, None),
                                  ("a || { keep x ; b && give x }", [1, 1], None), ("a || b", [1, 0], [1, 0]),
                                  ("while status 0 do a end", None, None), ("a && status 2", [0], [0]),
                                  ("trap end { z } ; a", [0, 1], [0, 1]), ("a ; keep x ; zero x && b || give x", [0, 1], [0, 1])):
            program = read_program(text)
            self.assertEqual(gives_back(program, "first"), first, text)
            self.assertEqual(gives_back(program, "last"), last, text)

    def test_samples(self):
        found = 0
        for program in itertools.chain(keeping(range(250)), small_samples(range(150))):
            for which in ("first", "last"):
                row = gives_back(program, which)
                wrong = [row for row, (_, outcome) in rows_of(program, 6) if outcome[0] == "ended" and len(row) == outcome[2]
                         and self.is_wrong(row, outcome, which)]
                if wrong:
                    self.assertEqual(row, wrong[0], (program, which))
                    found += 1
                elif row is not None:
                    self.assertGreater(len(row), 6)
        self.assertGreater(found, 100)

    def is_wrong(self, row, outcome, which):
        if not any(row):
            return outcome[1] != 0
        return word_of(row, outcome) not in ("only", which)

    def test_other_values(self):
        for which in (None, "", "only", "First", 1, True, ["first"], ("first",), {"first": 1}, b"first", object(), {"first"}):
            with self.assertRaises(InvalidName) as caught:
                gives_back(main(A), which)
            self.assertIs(caught.exception.name, which)
        gives_back(program=main(A, B), which="first").append(2)
        self.assertEqual(gives_back(program=main(A, B), which="first"), [1, 0])


def plain_live(program, length):
    """Variables that make a difference for some row up to a length, tried with other numbers."""
    plan = plan_of(program)
    rows, found = least_rows(program), []
    for entry, row in zip(machine(program), rows):
        if entry[0] != "ask":
            found.append(None)
            continue
        walk = started_walk(plan)
        for status in told(row):
            tell(walk, status)
        live = []
        for place, shell in enumerate(walk.shells):
            for name, value in shell.variables.items():
                if any(differs(walk, place, name, other, length) for other in (0, 1, 3, 5000) if other != value):
                    live.append((place, name))
        found.append(live)
    return found


def least_rows(program):
    rows = {0: []}
    entries = machine(program)
    for number, entry in enumerate(entries):
        if entry[0] == "ask":
            for failed, (after, _) in enumerate(entry[4:]):
                rows.setdefault(after, rows[number] + [failed])
    return [rows[number] for number in range(len(entries))]


def differs(walk, place, name, value, length):
    other = walk.copied()
    other.shells[place].variables[name] = value
    pairs = [(walk, other, 0)]
    while pairs:
        one, two, told_so_far = pairs.pop()
        if look(one) != look(two):
            return True
        if one.asking is not None and told_so_far < length:
            for status in (0, 7000 + told_so_far):
                copies = one.copied(), two.copied()
                for copied in copies:
                    tell(copied, status)
                pairs.append((*copies, told_so_far + 1))
    return False


def look(walk):
    return (walk.asking.tree[1] if walk.asking is not None else None, walk.status, walk.silent)


class LiveVariables(unittest.TestCase):
    def assert_live(self, text, *expected):
        self.assertEqual(live_variables(read_program(text)), list(expected), text)

    def test_simple(self):
        self.assert_live("a ; b", [], [], None, None)
        self.assert_live("a ; keep x ; b ; give x", [], [(0, "x")], [(0, "x")], None, None)
        self.assert_live("a ; give x", [(0, "x")], None)
        self.assert_live("put x 3 ; a ; give x", [(0, "x")], None)
        self.assert_live("a ; zero x && give y", [(0, "x"), (0, "y")], None)
        self.assert_live("put x 3 ; a ; zero x && give y", [(0, "x")], None)
        self.assert_live("put x 3 ; a ; ! zero x ; ! give x", [(0, "x")], None)
        self.assert_live("put x 3 ; a ; zero x ; status 0", [], None)
        y = [(0, "y")]
        self.assert_live("a ; keep x ; b ; keep y ; c ; give y", [], [], [], y, y, y, y, None, None)

    def test_values_of_the_same_kind(self):
        # Whether x is 0 is all that matters, or which failure it is.
        self.assert_live("put x 3 ; a ; zero x", [(0, "x")], None)
        self.assert_live("put x 3 ; a ; zero x || give x", [(0, "x")], None)
        self.assert_live("put x 1 ; a ; give x || status 2", [(0, "x")], None)
        self.assert_live("put x 1 ; a ; give x ; status 2", [], None)
        self.assert_live("put x 1 ; option fail on ; a ; give x ; status 2", [(0, "x")], None, None)

    def test_shells_within_shells(self):
        self.assert_live("( a ; give x ) ; give y", [(0, "y")], None)
        self.assert_live("( a ; give x ) && give y", [(0, "y"), (1, "x")], None)
        self.assert_live("( a ; give x )", [(1, "x")], None)
        self.assert_live("( ( a ; give x ) ; give y )", [(1, "y")], None)
        self.assert_live("( ( a && give x ) && give y ) && give z", [(0, "z"), (1, "y"), (2, "x")], None, None)
        self.assert_live("a | give x ; b", [], [], None, None)
        self.assert_live("{ a | b } ; give x", [(0, "x")], [(0, "x")], [(0, "x")], None)

    def test_loops_and_traps(self):
        self.assert_live("while a do give x end", [(0, "x")], None)
        self.assert_live("trap end { exit 3 } ; a ; give x", [], None)
        self.assert_live("trap end { give x && exit 3 } ; a", [(0, "x")], None)

    def test_silence_counts(self):
        program = read_program("a ; while zero x do status 0 end")
        self.assertEqual(live_variables(program), [[(0, "x")], None])

    def test_samples(self):
        found = 0
        for program in itertools.chain(keeping(range(120)), small_samples(range(160))):
            if not command_names(program)[1]:
                continue
            live = live_variables(program)
            expected = plain_live(program, 4)
            self.assertEqual(len(live), len(expected))
            for have, want in zip(live, expected):
                self.assertEqual(have is None, want is None)
                if have is not None:
                    self.assertEqual(have, sorted(have))
                    self.assertLessEqual(set(want), set(have), program)
                    found += len(want)
                    for place, name in set(have) - set(want):
                        # It may take longer rows, but not in programs that end soon.
                        self.assertGreater(len(max(least_rows(program), key=len)), 3, (program, place, name))
        self.assertGreater(found, 100)

    def test_limit(self):
        self.assertEqual(len(live_variables(main(("times", 58, A)))), 60)
        assert_error(self, TooLarge, 60, live_variables, main(("times", 59, A)))
        assert_error(self, TooLarge, 60, live_variables, main(("times", 999, A)))
        assert_error(self, TooLarge, 60, live_variables, main(("times", 999, A), ("times", 999, B)))

    def test_many_variables(self):
        names = ["v" + first + last for first in "abcde" for last in "abcdefgh"]
        program = main(A, *[("give", name) for name in names[:-1]], B, ("give", names[-1]))
        self.assertEqual(live_variables(program), [[(0, names[-1])], [(0, names[-1])], None])
        shells = main(("times", 10, ("sub", ("sub", seq(A, *[("and", ("give", name), ("status", 0)) for name in names])))),)
        self.assertEqual(live_variables(shells)[0], [(0, names[-1])])
        self.assertEqual(live_variables(shells)[-2], [(2, names[-1])])

    def test_new(self):
        program = main(A, ("give", "x"))
        live_variables(program=program)[0].clear()
        self.assertEqual(live_variables(program), [[(0, "x")], None])


class Sets(unittest.TestCase):
    def test_example(self):
        two = ("seq", (("run", "a"), ("keep", "x"), ("give", "x"), ("run", "b"), ("keep", "y"), ("give", "y")))
        self.assertEqual(needless_sets(((), two)), [(-1, 1)])
        self.assertIn(fewest_variables(((), two)), ({"x": "x", "y": "x"}, {"x": "y", "y": "y"}))
        self.assertEqual(program_text(without_sets(((), two))), "a ; status 0 ; give x ; b ; keep y ; give y")

    def test_each_alone(self):
        # Either of both may be left out, but not both.
        program = read_program("put x 3 ; put x 3 ; a ; give x")
        self.assertEqual(needless_sets(program), [(-1, 0), (-1, 1)])
        self.assertEqual(program_text(without_sets(program)), "put x 3 ; status 0 ; a ; give x")
        program = read_program("a ; keep x ; put y 3 ; b ; give y")
        self.assertEqual(needless_sets(program), [(-1, 1)])

    def test_last_status_is_0_all_the_same(self):
        self.assertEqual(needless_sets(read_program("a ; keep x")), [(-1, 1)])
        self.assertEqual(program_text(without_sets(read_program("a ; keep x"))), "a ; status 0")
        self.assertEqual(needless_sets(read_program("put x 0")), [(-1,)])
        self.assertEqual(without_sets(read_program("put x 0")), main(("status", 0)))

    def test_reading_order(self):
        program = read_program("def f { put x 1 ; a } def unused { keep y } call f ; put y 2 ; trap end { put z 1 } ; ( keep x ) ; b")
        self.assertEqual(needless_sets(program), [(0, 0), (1,), (-1, 1), (-1, 2, 0), (-1, 3, 0)])
        self.assertEqual(program_text(without_sets(program)), "def f { status 0 ; a } def unused { status 0 } call f ; status 0 ; "
                         "trap end { status 0 } ; ( status 0 ) ; b")

    def test_samples(self):
        changed = 0
        for program in itertools.chain(keeping(range(1000, 1150)), small_samples(range(1000, 1150))):
            if program_size(program)[0] > 40:
                continue
            paths = sets_of(program)
            expected = [path for path in paths if alike(program, left_out(program, path))]
            self.assertEqual(needless_sets(program), expected)
            result = program
            for path in reversed(paths):
                if alike(result, left_out(result, path)):
                    result = left_out(result, path)
                    changed += 1
            self.assertEqual(without_sets(program), result)
            self.assertTrue(alike(program, result))
        self.assertGreater(changed, 50)

    def test_limits(self):
        program = main(*[A] * 38, ("keep", "x"))
        self.assertEqual(needless_sets(program), [(-1, 38)])
        self.assertEqual(without_sets(program), main(*[A] * 38, ("status", 0)))
        for function in (needless_sets, without_sets, fewest_variables):
            assert_error(self, TooLarge, 40, function, main(*[A] * 39, ("keep", "x")))
            assert_error(self, TooLarge, 40, function, main(*[("times", 999, A)] * 2, *[A] * 38))
            assert_error(self, TooLarge, 1000, function, main(("keep", "x"), ("times", 999, A)))
        self.assertEqual(needless_sets(main(("times", 997, A), ("keep", "x"))), [(-1, 1)])

    def test_more_than_2000_pairs(self):
        """These functions have no limit of pairs."""
        program = read_program("times 400 do a ; put x 0 end ; b ; keep x")
        self.assertEqual(needless_sets(program), [(-1, 0, 0, 1), (-1, 2)])


def sets_of(program):
    def walk(tree, path):
        found = [path] if tree[0] in ("keep", "put") else []
        parts = tree[1] if tree[0] in ("seq", "pipe") else [part for part in tree[1:] if isinstance(part, tuple)]
        for place, part in enumerate(parts):
            found += walk(part, path + (place,))
        return found
    found = []
    for number, (_, body) in enumerate(program[0]):
        found += walk(body, (number,))
    return found + walk(program[1], (-1,))


def left_out(program, path):
    def walk(tree, places):
        if not places:
            return ("status", 0)
        if tree[0] in ("seq", "pipe"):
            return (tree[0], tuple(walk(part, places[1:]) if place == places[0] else part
                                   for place, part in enumerate(tree[1])))
        at = [at for at, part in enumerate(tree) if isinstance(part, tuple)][places[0]]
        return tree[:at] + (walk(tree[at], places[1:]),) + tree[at + 1:]
    functions = list(program[0])
    if path[0] == -1:
        return program[0], walk(program[1], path[1:])
    functions[path[0]] = (functions[path[0]][0], walk(functions[path[0]][1], path[1:]))
    return tuple(functions), program[1]


def merged(program, names):
    text = " ".join(program_text(program).split())
    words = text.split()
    for at, word in enumerate(words[:-1]):
        if word in ("give", "zero", "keep", "put"):
            words[at + 1] = names[words[at + 1]]
    return read_program(" ".join(words))


class FewestVariables(unittest.TestCase):
    def test_none(self):
        self.assertEqual(fewest_variables(main(A)), {})
        self.assertEqual(fewest_variables(main(("keep", "x"))), {"x": "x"})

    def test_some(self):
        for text, many in (("a ; keep x ; b ; keep y ; give x", 2), ("a ; keep x ; b ; keep y ; give y", 1),
                           ("put x 1 ; put y 2 ; a ; zero x && b ; zero y", 1), ("put x 1 ; put y 0 ; a ; zero x && b ; zero y", 2),
                           ("keep x ; keep y ; keep z ; a", 1), ("put x 1 ; put y 2 ; put z 3 ; a ; give x ; b ; give y ; c ; give z", 1),
                           ("put x 1 ; put y 2 ; put z 0 ; a ; if give x then b end ; if give z then b end ; give y", 2),
                           ("put v 1 ; put w 2 ; put x 3 ; put y 4 ; put z 5 ; a ; if give v then b end ; give z", 1)):
            program = read_program(text)
            names = fewest_variables(program)
            self.assertEqual(len(set(names.values())), many, (text, names))

    def test_samples(self):
        for program in itertools.chain(keeping(range(2000, 2120)), small_samples(range(2000, 2100))):
            variables = command_names(program)[1]
            if program_size(program)[0] > 40 or len(variables) > 5:
                continue
            names = fewest_variables(program)
            self.assertEqual(sorted(names), variables)
            self.assertLessEqual(set(names.values()), set(variables))
            self.assertTrue(alike(program, merged(program, names)))
            if len(set(names.values())) > 1:
                self.assertFalse(alike(program, merged(program, {name: variables[0] for name in variables})))

    def test_five_variables(self):
        program = read_program("a ; keep v ; b ; keep w ; c ; keep x ; a ; keep y ; b ; keep z ; c ; give v")
        self.assertLessEqual(len(set(fewest_variables(program).values())), 2)
        for order in ("vwxyz", "zyxwv", "xvzwy"):
            text = "; ".join(f"put {name} {number} " for number, name in enumerate(order, 1))
            gives = " ; ".join(f"if a then give {name} ; exit end" for name in order)
            program = read_program(f"{text} ; {gives}")
            self.assertEqual(len(set(fewest_variables(program).values())), 5)

    def test_limits(self):
        names = ["va", "vb", "vc", "vd", "ve", "vf"]
        six = main(*[("keep", name) for name in names])
        assert_error(self, TooLarge, 5, fewest_variables, six)
        assert_error(self, TooLarge, 5, fewest_variables, main(*[A] * 50, *[("keep", name) for name in names]))
        assert_error(self, TooLarge, 40, fewest_variables, main(*[A] * 50, *[("keep", name) for name in names[:5]]))
        assert_error(self, TooLarge, 1000, fewest_variables, main(*[("keep", name) for name in names[:5]], ("times", 999, A)))
        self.assertEqual(set(fewest_variables(main(*[A] * 34, *[("keep", name) for name in names[:5]])).values()), {"va"})

    def test_new(self):
        program = main(("keep", "x"))
        fewest_variables(program=program).clear()
        self.assertEqual(fewest_variables(program), {"x": "x"})
        needless_sets(program=program).clear()
        self.assertEqual(needless_sets(program), [(-1,)])
        self.assertEqual(without_sets(program=program), main(("status", 0)))


class Errors(unittest.TestCase):
    def test_programs(self):
        for value, path in NO_PROGRAMS:
            for function in (tellings, live_variables, needless_sets, without_sets, fewest_variables):
                assert_error(self, InvalidProgram, path, function, value)
            assert_error(self, InvalidProgram, path, gives_back, value, None)

    def test_too_large(self):
        large = main(("times", 999, A))
        assert_error(self, TooLarge, 1000, tellings, large)
        assert_error(self, TooLarge, 1000, gives_back, large, "first")
        assert_error(self, InvalidName, "middle", gives_back, large, "middle")
        self.assertEqual(gives_back(main(("times", 998, A)), "first"), [0] * 996 + [1, 0])
        self.assertEqual(tellings(main(("times", 998, A)))["only"], [0] * 997 + [1])


if __name__ == "__main__":
    unittest.main()
