"""Programs without functions, without the option "fail", and as one loop."""

import unittest

from shellways.alike import alike
from shellways.errors import InvalidProgram, Mismatch, TooLarge
from shellways.machines import situations
from shellways.programs import check_program, command_names
from shellways.rewriting import flat, without_fail, without_functions
from shellways.shells import run
from shellways.texts import read_program
from tests.brute import are_same
from tests.samples import RichSampler, Sampler, sampled
from tests.trees import A, B, C, FAIL_OFF, FAIL_ON, PIPES_ON, Z, main, nested, pipe, seq, status
from tests.wrong import NO_PROGRAMS, assert_error

FLAT = ("run", "status", "give", "zero", "keep", "put", "seq", "if", "while", "exit")
LOOP = ("while", status(0), status(0))


def trees_of(tree):
    """All trees inside a tree and itself."""
    if type(tree) is tuple and tree and type(tree[0]) is str:
        yield tree
    if type(tree) is tuple:
        for part in tree:
            yield from trees_of(part)


def trees_in(program):
    """All trees of a program; names of commands do not look like trees."""
    yield from trees_of(tuple(body for _, body in program[0]) + (program[1],))


def words_of(program):
    return {tree[0] for tree in trees_in(program)}


def without_fail_traps(tree):
    """The tree with end traps in the place of its fail traps."""
    if type(tree) is not tuple:
        return tree
    if tree and tree[0] == "trap" and tree[1] == "fail" and tree[2] is not None:
        tree = ("trap", "end", tree[2])
    return tuple(without_fail_traps(part) for part in tree)


class Rewriting(unittest.TestCase):
    def check_same(self, program, result, length=6):
        self.assertEqual([type(result), result[0]], [tuple, ()])
        check_program(result)
        try:
            self.assertTrue(alike(program, result), (program, result))
        except TooLarge:
            self.assertTrue(are_same(program, result, length, True), (program, result))

    def check_without(self, program):
        result = without_functions(program)
        self.assertEqual(words_of(result) & {"call", "return"}, set())
        self.check_same(program, result)
        lean = without_fail(program)
        self.assertEqual(words_of(lean) & {"call", "return"}, set())
        self.assertEqual([tree for tree in trees_in(lean) if tree[:2] == ("option", "fail")], [])
        self.check_same(program, lean)

    def check_flat(self, program):
        result = flat(program)
        self.assertLessEqual(words_of(result), set(FLAT))
        loops = [tree for tree in trees_in(result) if tree[0] == "while"]
        self.assertEqual(len(loops), 1)
        runs = [tree for tree in trees_in(result) if tree[0] == "run"]
        self.assertEqual(runs, [tree for tree in trees_of(loops[0]) if tree[0] == "run"])
        self.check_same(program, result)


class WithoutFunctions(Rewriting):
    def check_texts(self, *texts):
        for text in texts:
            self.check_without(read_program(text))

    def test_functions_that_call_one_another(self):
        self.check_texts(
            "def g { f && a } option fail on ; call g ; b",
            "def g { a ; return } def h { call g && b ; call g || return 4 ; c } call h ; call g ; option fail on ; call h",
            "def g { a } def h { ! call g } def i { call h ; call h } call i && call i",
            "def f { a } def g { call f ; option fail on } call g ; call f ; ! call f ; b")

    def test_returns(self):
        self.check_texts(
            "def g { while a do until b do return 3 end ; return end ; c ; return 0 } call g",
            "def g { times 3 do if a then return else next 1 end end } call g && b ; call g",
            "def g { while return 5 do a end } call g", "def g { until a && return do b end ; c } option fail on ; call g",
            "def g { if a then return 0 end ; b ; break_it } call g".replace("break_it", "c"),
            "def g { a ; keep x ; give x ; return } call g ; b", "def g { return } a ; call g", "def g { a || return } ! call g",
            "def g { times 2 do times 2 do a && return 7 ; b || break 2 end end } times 2 do call g ; call g || next 1 end")

    def test_calls_in_conditions(self):
        self.check_texts(
            "def g { a ; b } option fail on ; if call g then c end ; call g",
            "def g { a ; b } option fail on ; while call g do c end ; call g || c",
            "def g { a ; return 1 } def h { call g ; b } option fail on ; ! call h ; call h ; c")

    def test_exits_and_options(self):
        self.check_texts(
            "def g { a || exit ; b && exit 5 } ( call g ) ; call g | c ; call g",
            "def g { option fail on ; a } ( call g ; b ) ; c ; call g ; a", "def g { option fail off } option fail on ; a ; call g ; b ; c",
            "option fail on ; a ; option fail off ; b ; option fail on ; c", "option fail off ; a ; b", "option fail on ; status 3 ; a",
            "option fail on ; a || status 3 ; b", "put x 4 ; option fail on ; a && give x ; b", "a ; keep x ; option fail on ; zero x ; b",
            "option fail on ; keep x ; zero x ; put x 0 ; zero x ; give x ; status 0 ; a")

    def test_shells(self):
        self.check_texts(
            "def g { a ; return 3 } option fail on ; ( call g ) ; b", "option fail on ; ( a && b ) ; c",
            "option fail on ; option pipes on ; a | b | c ; a", "option fail on ; a | ( b ; c ) ; a",
            "( option fail on ; a ; b ) ; a ; b", "option fail on ; ( option fail off ; a ; b ) ; c",
            "def g { ( a ; exit ) ; return } option fail on ; ! ( call g ; b ) ; call g | c", "( ( ( option fail on ; a ; b ) ; c ) ; a )",
            "option fail on ; until a do ( b ; c ) end ; a")

    def test_end_traps(self):
        self.check_texts(
            "def g { a ; return 2 } trap end { call g ; b ; exit } ; option fail on ; c ; call g",
            "def g { trap end { a || exit 4 } } call g ; option fail on ; b ; c", "option fail on ; ( trap end { a ; ( b ; c ) } ; a ) ; c",
            "trap end { option fail on ; a ; b } ; c", "trap end { exit } ; option fail on ; a ; b")

    def test_fail_traps(self):
        self.check_texts("trap fail off ; option fail on ; a ; b", "def g { trap fail off ; a } call g ; b")
        for text in ("trap fail { a } ; b", "def g { trap fail { a } } b", "( trap fail { status 0 } )", "a | trap fail { b }",
                     "trap end { trap fail { a } }", "times 0 do trap fail { a } end", "exit ; trap fail { a }"):
            for function in (without_functions, without_fail):
                assert_error(self, Mismatch, "program", function, read_program(text))

    def test_silent_programs(self):
        for tree in (LOOP, seq(A, LOOP), ("times", 1000, status(0)), seq(A, ("times", 500, status(0)), ("times", 500, B)),
                     ("times", 499, seq(status(0), ("not", status(0)))), ("times", 500, ("call", "g")), ("while", ("call", "g"), A),
                     ("times", 999, ("option", "fail", False)), seq(FAIL_ON, ("times", 1000, ("put", "x", 1)), A)):
            program = ((("g", status(0)),), tree)
            for row in ([], [0], [7], [0, 0]):
                if run(program, row)[1][0] == "silent":
                    self.assertEqual(run(without_functions(program), row), run(program, row))
                    self.assertEqual(run(without_fail(program), row), run(program, row))

    def test_silent_wherever_the_program_is(self):
        """The results begin no fewer trees than the program, whatever stands ahead of a command."""
        body = seq(A, B)
        program = ((("g", body),), seq(("times", 996, status(0)), ("call", "g")))
        self.assertEqual(run(program, []), ([], ("silent", 0)))
        self.assertEqual(run(((("g", body),), seq(("times", 995, status(0)), ("call", "g"))), []), ([], ("asks", "a")))
        for function in (without_functions, without_fail):
            self.assertEqual(run(function(program), []), ([], ("silent", 0)))
        tried = 0
        for sample, _ in sampled(range(300), (4, 8, 12, 20)):
            program = without_fail_traps(sample)
            rounds = self.first_silent(program)
            if rounds is not None:
                tried += 1
                for changed in self.with_rounds(program, rounds):
                    for row in ([], [0], [7]):
                        expected = run(changed, row)
                        if expected[1][0] == "silent":
                            self.assertEqual(run(without_functions(changed), row), expected, changed)
                            self.assertEqual(run(without_fail(changed), row), expected, changed)
        self.assertGreater(tried, 100)

    def with_rounds(self, program, rounds):
        """The program with so many rounds ahead of main, and ahead of the bodies of its functions."""
        functions, tree = program
        ahead = ("times", rounds, status(0))
        yield functions, seq(ahead, tree)
        if functions and ("call", functions[-1][0]) in trees_in(program):
            changed = functions[:-1] + ((functions[-1][0], seq(ahead, functions[-1][1])),), tree
            try:
                check_program(changed)
            except InvalidProgram:
                # The function is called several times.
                return
            yield changed

    def first_silent(self, program):
        """The least number of rounds ahead of main with which it is silent, if it asks without them."""
        functions, tree = program
        if run(program, [])[1][0] != "asks":
            return None
        low, high = 0, 1000
        while high - low > 1:
            middle = (low + high) // 2
            if run((functions, seq(("times", middle, status(0)), tree)), [])[1][0] == "silent":
                high = middle
            else:
                low = middle
        return high

    def test_fifty_trees(self):
        for count in (46, 47, 48):
            for part in (("run", "a"), ("or", status(1), status(0))):
                program = ((("g", seq(status(2), ("return", None))),),
                           seq(FAIL_ON, A, ("not", seq(*[("call", "g")] * (count // 4))), seq(FAIL_OFF, part), ("call", "g"), B))
                for row in ([], [0], [3], [0, 0], [0, 5, 0]):
                    self.assertEqual(run(without_functions(program), row), run(program, row))
                    self.assertEqual(run(without_fail(program), row), run(program, row))

    def test_open_trees_that_are_left(self):
        tree = A
        for _ in range(19):
            tree = ("sub", seq(("sub", tree), status(0)))
        program = main(FAIL_OFF, tree, B)
        self.assertTrue(alike(program, without_functions(program)))
        deep = main(FAIL_ON, FAIL_OFF, nested(lambda part: ("sub", part), 25, A), B)
        self.assertEqual(run(without_fail(deep), [4, 6]), run(deep, [4, 6]))

    def test_functions_that_would_grow(self):
        """What is never begun may call much more than could be carried out."""
        functions = [("f", A)]
        for number in range(18):
            last = functions[-1][0]
            functions.append(("g" + "abcdefghijklmnopqrst"[number], seq(*[("call", last)] * 9)))
        program = (tuple(functions), seq(("times", 0, ("call", functions[-1][0])), ("call", "f"), B))
        self.check_without(program)
        program = (tuple(functions), seq(A, ("call", "ga")))
        self.check_without(program)

    def test_calls_inside_many_calls(self):
        functions = [("f", seq(A, ("return", None)))]
        for number in range(19):
            last = functions[-1][0]
            functions.append(("g" + "abcdefghijklmnopqrst"[number], nested(lambda part: ("not", part), 57, ("call", last))))
        program = (tuple(functions), ("call", functions[-1][0]))
        # These are too large to be programs, but they are made.
        self.assertEqual([without_functions(program)[0], without_fail(program)[0]], [(), ()])

    def test_new_names_are_new(self):
        letters = "abcdefghijklmnopqrstuvwxyz"
        names = list(letters) + ["a" + letter for letter in letters[:14]]
        body = seq(A, ("return", None))
        program = ((("g", body),), seq(FAIL_ON, *[("put", name, 3) for name in names], FAIL_OFF, ("call", "g"), ("give", "a"), B, ("give", "ab")))
        for function, more in ((without_functions, 1), (without_fail, 2)):
            result = function(program)
            found = {tree[1] for tree in trees_in(result) if tree[0] in ("give", "zero", "keep", "put")}
            self.assertEqual(len(found - set(names)), more)

    def test_samples(self):
        tried = 0
        for kind in (Sampler, RichSampler):
            for program, _ in sampled(range(1500), (4, 8, 12, 20, 30), kind):
                program = without_fail_traps(program)
                self.check_without(program)
                tried += 1
        self.assertGreater(tried, 2000)

    def test_errors(self):
        for function in (without_functions, without_fail, flat):
            for program, path in NO_PROGRAMS:
                assert_error(self, InvalidProgram, path, function, program)
        program = main(("trap", "fail", A), ("times", 1000, B))
        assert_error(self, Mismatch, "program", without_fail, program)

    def test_programs_do_not_change(self):
        program = ((("g", seq(A, ("return", 3))),), seq(FAIL_ON, ("call", "g")))
        before = repr(program)
        for function in (without_functions, without_fail, flat):
            self.assertEqual(function(program), function(program))
        self.assertEqual(repr(program), before)


class Flat(Rewriting):
    def test_programs(self):
        for text in (
                "a", "exit 3", "status 0", "a ; keep x ; b ; give x", "a || b || c", "option pipes on ; a | b | c", "( a ; b ) ; c",
                "while a do b end", "until a do keep x ; b end ; give x", "trap end { a ; b } ; c", "trap fail { a } ; b ; c && a",
                "times 3 do a || b end", "a ; keep x ; b ; keep y ; c ; give x ; keep z ; give y ; keep x ; give z ; keep y ; d ; give x",
                "while a do keep x ; b ; keep y ; give x ; keep z ; give y ; keep x ; give z ; keep y ; c && exit ; c && give x && exit end",
                "def g { a && return 3 ; b } option fail on ; call g || c ; call g", "a && while status 0 do status 0 end",
                "while status 0 do status 0 end", "while a do keep z ; b ; keep y ; c ; keep x ; give x || exit ; give y || exit end",
                "times 1000 do status 0 end"):
            self.check_flat(read_program(text))

    def test_failures_that_change_places(self):
        """Each round moves all failures on, so they change places in the variables."""
        names = "uvwxyz"
        moves = [("give", "u"), ("keep", "s")]
        for one, two in zip(names, names[1:]):
            moves += [("give", two), ("keep", one)]
        moves += [("give", "s"), ("keep", "z")]
        for count in (2, 3, 4):
            start = [part for name in names[6 - count:] for part in (A, ("keep", name))]
            program = main(*start, ("times", 3, seq(B, ("keep", "t"), seq(*moves))), *[
                part for name in names for part in (C, ("give", name), ("or", ("give", name), status(0)))])
            if situations(main(*start)) <= 60:
                try:
                    self.check_flat(program)
                except TooLarge:
                    pass
        swap = seq(("give", "x"), ("keep", "z"), ("give", "y"), ("keep", "x"), ("give", "z"), ("keep", "y"), ("put", "z", 0))
        program = main(A, ("keep", "x"), B, ("keep", "y"), ("until", C, swap), ("give", "x"))
        self.check_flat(program)
        turn = seq(("give", "w"), ("keep", "z"), ("give", "x"), ("keep", "w"), ("give", "y"), ("keep", "x"), ("give", "z"),
                   ("keep", "y"), ("put", "z", 0))
        program = main(A, ("keep", "x"), ("or", ("zero", "x"), seq(B, ("keep", "y"), C, ("keep", "w"), ("until", Z, turn), ("give", "x"))))
        self.check_flat(program)
        told = seq(("keep", "x"), ("give", "y"), ("keep", "z"), ("give", "x"), ("keep", "y"), ("give", "z"), ("keep", "x"), ("put", "z", 0))
        # The failure that is told now takes the place of one that moves on.
        for last in "xy":
            self.check_flat(main(A, ("keep", "y"), ("until", B, told), ("give", last)))
            self.check_flat(main(A, ("keep", "y"), ("until", ("not", B), told), ("give", last)))
        self.check_flat(main(A, ("keep", "y"), ("while", ("seq", (B, ("keep", "w"), ("zero", "w"))), status(0)), ("give", "y"), PIPES_ON,
                             pipe(("give", "w"), C)))

    def test_limit(self):
        self.assertEqual([situations(read_program(text)) for text in ("times 58 do a end", "times 59 do a end")], [60, 61])
        self.check_flat(read_program("times 58 do a end"))
        self.check_flat(read_program("times 29 do a ; b end"))
        for text in ("times 59 do a end", "times 500 do a ; b end", "times 500 do a ; b end ; c"):
            assert_error(self, TooLarge, 60, flat, read_program(text))

    def test_samples(self):
        tried = 0
        for kind in (Sampler, RichSampler):
            for program, _ in sampled(range(1200), (4, 8, 12, 20, 30), kind):
                if len(command_names(program)[0]) == 0:
                    continue
                try:
                    result = flat(program)
                except TooLarge as error:
                    self.assertEqual(error.limit, 60)
                    continue
                self.assertLessEqual(words_of(result), set(FLAT))
                self.check_same(program, result)
                tried += 1
        self.assertGreater(tried, 1500)


if __name__ == "__main__":
    unittest.main()
