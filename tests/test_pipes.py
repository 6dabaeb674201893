"""[5.1] new_shells, [5.2] needless, [5.3] without_needless."""

import unittest

from shellways.errors import InvalidProgram
from shellways.pipes import needless, new_shells, without_needless
from shellways.programs import program_size
from shellways.texts import program_text, read_program
from tests.brute import are_same
from tests.samples import sampled
from tests.trees import A, B, C, main, nested, pipe, seq
from tests.wrong import NO_PROGRAMS, assert_error


def plain_sets(program, tree, inside=()):
    """What is set in the shell of a tree, following each call anew."""
    word = tree[0]
    if word in ("sub", "pipe"):
        return set()
    if word in ("option", "trap"):
        found = {(word, tree[1])}
    elif word in ("keep", "put"):
        found = {("variable", tree[1])}
    elif word == "exit":
        found = {"exit"}
    elif word == "call":
        return plain_sets(program, dict(program[0])[tree[1]])
    else:
        found = set()
    for part in (tree[1] if word == "seq" else tree[1:]):
        if isinstance(part, tuple):
            found |= plain_sets(program, part)
    return found


def parts_of(tree):
    return tree[1] if tree[0] in ("seq", "pipe") else [part for part in tree[1:] if isinstance(part, tuple)]


def all_trees(program):
    """Yields the tuples (path, tree, tree around it) in reading order."""
    def walk(tree, path, around):
        yield path, tree, around
        for place, part in enumerate(parts_of(tree)):
            yield from walk(part, path + (place,), tree)
    for number, (_, body) in enumerate(program[0]):
        yield from walk(body, (number,), None)
    yield from walk(program[1], (-1,), None)


def plain_needless(program):
    quiet = not any(tree == ("option", "fail", True) or tree[:2] == ("trap", "fail") and tree[2] is not None
                    for _, tree, _ in all_trees(program))
    found = []
    for path, tree, around in all_trees(program):
        if tree[0] != "sub":
            continue
        if path == (-1,) or around is not None and around[0] in ("sub", "pipe") \
                or tree[1][0] in ("run", "status", "give", "zero") or quiet and not plain_sets(program, tree[1]):
            found.append(path)
    return found


def replaced(program, path, trees):
    """The program with these trees, one or more, in the place of one."""
    def walk(tree, places):
        if not places:
            return trees
        parts = [tree[1]] if tree[0] in ("seq", "pipe") else None
        if parts:
            inner = []
            for place, part in enumerate(tree[1]):
                inner += walk(part, places[1:]) if place == places[0] else [part]
            return [(tree[0], tuple(inner))]
        entries, count = list(tree), -1
        for at, entry in enumerate(tree):
            if isinstance(entry, tuple):
                count += 1
                if count == places[0]:
                    entries[at] = walk(entry, places[1:])[0]
        return [tuple(entries)]
    functions = list(program[0])
    if path[0] == -1:
        return program[0], walk(program[1], path[1:])[0]
    name, body = functions[path[0]]
    functions[path[0]] = (name, walk(body, path[1:])[0])
    return tuple(functions), program[1]


def leaned_step_by_step(program, last):
    """Replaces one needless sub, or one pipe within a pipe, after the other."""
    while True:
        paths = plain_needless(program)
        steps = [(path, [tree[1]]) for path, tree, _ in all_trees(program) if path in paths]
        steps += [(path, list(tree[1])) for path, tree, around in all_trees(program)
                  if tree[0] == "pipe" and around is not None and around[0] == "pipe"]
        if not steps:
            return program
        program = replaced(program, *steps[-1 if last else 0])


class NewShells(unittest.TestCase):
    def assert_shells(self, text, *expected):
        self.assertEqual(new_shells(read_program(text)), list(expected), text)

    def test_example(self):
        program = ((), ('seq', (('sub', ('seq', (('put', 'x', 1), ('option', 'fail', True)))), ('pipe', (('sub', ('run', 'a')), ('keep', 'y'))))))
        self.assertEqual(new_shells(program), [((-1, 0, 0), [('option', 'fail'), ('variable', 'x')]), ((-1, 1, 0), []),
                                               ((-1, 1, 0, 0), []), ((-1, 1, 1), [('variable', 'y')])])

    def test_none(self):
        self.assert_shells("a ; put x 3 ; option fail on ; trap end { keep y }")

    def test_each_word(self):
        self.assert_shells("( keep x ; put y 0 ; option fail off ; option pipes on ; trap end off ; trap fail { a } )",
                           ((-1, 0), [("option", "fail"), ("option", "pipes"), ("trap", "end"), ("trap", "fail"),
                                      ("variable", "x"), ("variable", "y")]))
        self.assert_shells("( give x ; zero y ; exit 3 )", ((-1, 0), []))

    def test_everywhere_in_the_shell(self):
        self.assert_shells("( a && keep b || if keep c then keep d else ! keep e end ; times 0 do keep f end )",
                           ((-1, 0), [("variable", name) for name in "bcdef"]))
        self.assert_shells("( trap end { keep x ; trap fail { keep y } } )",
                           ((-1, 0), [("trap", "end"), ("trap", "fail"), ("variable", "x"), ("variable", "y")]))

    def test_not_in_new_shells_within(self):
        self.assert_shells("( put x 1 ; ( put y 1 ) ; put z 1 | put w 1 )", ((-1, 0), [("variable", "x")]),
                           ((-1, 0, 1, 0), [("variable", "y")]), ((-1, 0, 2, 0), [("variable", "z")]),
                           ((-1, 0, 2, 1), [("variable", "w")]))
        self.assert_shells("( trap end { ( put x 1 ) } )", ((-1, 0), [("trap", "end")]), ((-1, 0, 0, 0), [("variable", "x")]))
        self.assert_shells("( ( put x 1 ) )", ((-1, 0), []), ((-1, 0, 0), [("variable", "x")]))
        self.assert_shells("def f { ( keep x ) } ( call f )", ((0, 0), [("variable", "x")]), ((-1, 0), []))

    def test_functions(self):
        self.assert_shells("def f { keep x } def g { call f ; put y 1 } ( call g ) ; ( call f )",
                           ((-1, 0, 0), [("variable", "x"), ("variable", "y")]), ((-1, 1, 0), [("variable", "x")]))
        self.assert_shells("def f { keep x } ( trap end { call f } )", ((-1, 0), [("trap", "end"), ("variable", "x")]))
        self.assert_shells("def f { keep x ; ( keep y ) } def g { ( call f ) | a } b", ((0, 1, 0), [("variable", "y")]),
                           ((1, 0), []), ((1, 0, 0), [("variable", "x")]), ((1, 1), []))

    def test_twenty_functions(self):
        names = [chr(97 + number) for number in range(20)]
        text = "def a { keep va }" + "".join(f" def {new} {{ call {old} ; put v{new} 1 ; call {old} && call {old} }}"
                                             for old, new in zip(names, names[1:10]))
        text += "".join(f" def {new} {{ times 0 do call {old} end ; option pipes on }}" for old, new in zip(names[9:], names[10:]))
        self.assert_shells(text + " ( times 0 do call t end )",
                           ((-1, 0), [("option", "pipes")] + [("variable", "v" + name) for name in names[:10]]))

    def test_samples(self):
        for program, _ in sampled(range(500), (6, 12, 25, 50)):
            expected = [(path, sorted(plain_sets(program, tree) - {"exit"})) for path, tree, around in all_trees(program)
                        if around is not None and around[0] in ("sub", "pipe")]
            self.assertEqual(new_shells(program), expected)


class Needless(unittest.TestCase):
    def assert_needless(self, text, *expected):
        self.assertEqual(needless(read_program(text)), list(expected), text)

    def test_example(self):
        program = ((), ('seq', (('sub', ('seq', (('put', 'x', 1), ('option', 'fail', True)))), ('pipe', (('sub', ('run', 'a')), ('keep', 'y'))))))
        self.assertEqual(needless(program), [(-1, 1, 0)])

    def test_place(self):
        self.assert_needless("( put x 1 ; option fail on )", (-1,))
        self.assert_needless("( ( put x 1 ) ; a ; option fail on )", (-1,))
        self.assert_needless("a ; ( ( put x 1 ; option fail on ) )", (-1, 1, 0))
        self.assert_needless("( option fail on ) | ( exit 3 ; a ) | b", (-1, 0), (-1, 1))
        # The body of a function is not the whole of main.
        self.assert_needless("def f { ( put x 1 ; option fail on ) } call f")

    def test_plain_body(self):
        for tree in ("a", "status 3", "give x", "zero x"):
            self.assert_needless("option fail on ; b ; ( " + tree + " )", (-1, 2))
        for tree in ("keep x", "put x 3", "exit", "a ; b", "! a", "a && b", "call f", "option pipes on", "trap end off"):
            self.assert_needless("def f { a } option fail on ; b ; ( " + tree + " )")

    def test_nothing_happens(self):
        for tree in ("a ; b", "! a", "a && b || c", "while a do b end", "call f", "( keep x ; exit ) ; a", "a | exit 3"):
            self.assert_needless("def f { a } b ; ( " + tree + " )", (-1, 1))

    def test_what_keeps_the_third_condition_from_holding(self):
        for tree in ("a ; keep x", "a ; put x 0", "a ; option fail off", "a ; option pipes off", "a ; trap end off",
                     "a ; trap fail off", "trap end { b } ; a", "a ; exit", "a && exit 3", "call e", "call g",
                     "a ; times 0 do exit end"):
            self.assert_needless("def e { a ; exit } def g { call e } b ; ( " + tree + " )")
        for other in ("option fail on", "trap fail { z }", "( option fail on ; a )", "a && trap fail { z }"):
            self.assert_needless("b ; ( a ; b ) ; " + other)
        self.assert_needless("def unused { option fail on } b ; ( a ; b )")
        for other in ("option fail off", "option pipes on", "trap fail off", "trap end { z }"):
            self.assert_needless("b ; ( a ; b ) ; " + other, (-1, 1))

    def test_reading_order(self):
        self.assert_needless("def f { ( a ) } ( ( a ) ; b ) && ( c )", (0,), (-1, 0), (-1, 0, 0, 0), (-1, 1))

    def test_samples(self):
        found = 0
        for program, _ in sampled(range(800), (6, 12, 25, 50)):
            self.assertEqual(needless(program), plain_needless(program))
            found += len(needless(program))
        self.assertGreater(found, 400)


class WithoutNeedless(unittest.TestCase):
    def assert_becomes(self, text, expected):
        self.assertEqual(program_text(without_needless(read_program(text))), expected)

    def test_examples(self):
        self.assertEqual(
            without_needless(((), ('sub', ('pipe', (('pipe', (('run', 'a'), ('run', 'b'))), ('sub', ('sub', ('run', 'c')))))))),
            ((), ('pipe', (('run', 'a'), ('run', 'b'), ('run', 'c')))))
        self.assert_becomes("( ( put x 1 ) )", "put x 1")

    def test_one_of_two_stays(self):
        self.assert_becomes("( ( put x 1 ) ) ; a", "( put x 1 ) ; a")
        self.assert_becomes("( ( ( exit 3 ) ) ) ; a", "( exit 3 ) ; a")
        self.assert_becomes("( ( ( a ; b ) ) ) ; a", "{ a ; b } ; a")
        self.assert_becomes("option fail on ; ( ( a && b ) )", "option fail on ; ( a && b )")
        self.assert_becomes("option fail on ; ( ( a ) )", "option fail on ; a")

    def test_pipes(self):
        self.assert_becomes("{ a | b } | { c | { d | e } }", "a | b | c | d | e")
        self.assert_becomes("( { a | b } ) | c", "a | b | c")
        self.assert_becomes("( ( put x 1 ) | ( ( exit 2 ; a ) ) ) ; b", "put x 1 | { exit 2 ; a } ; b")
        self.assert_becomes("{ a | b } && c | d", "a | b && c | d")
        self.assert_becomes("( ! { a | b } ) | c", "! { a | b } | c")

    def test_functions(self):
        self.assert_becomes("def f { ( put x 1 ) } def g { ( a ) ; { b | c } | d } ( call f )",
                            "def f { ( put x 1 ) } def g { a ; b | c | d } call f")

    def test_deep(self):
        subs = nested(lambda tree: ("sub", tree), 57, seq(("put", "x", 1), A))
        self.assertEqual(without_needless(main(subs)), main(("put", "x", 1), A))
        self.assertEqual(without_needless(main(B, ("not", nested(lambda tree: ("sub", tree), 56, ("keep", "x"))))),
                         main(B, ("not", ("sub", ("keep", "x")))))
        pipes = nested(lambda tree: pipe(("sub", B), ("sub", tree)), 29, C)
        self.assertEqual(without_needless(main(pipes)), main(pipe(*[B] * 29, C)))

    def test_many(self):
        program = main(*[("sub", ("sub", A))] * 900)
        self.assertEqual(without_needless(program), main(*[A] * 900))
        program = main(("pipe", tuple([pipe(A, B)] * 900)))
        self.assertEqual(without_needless(program), main(pipe(*[A, B] * 900)))

    def test_samples(self):
        changed = 0
        for program, _ in sampled(range(300), (6, 12, 25, 40)):
            result = without_needless(program)
            self.assertEqual(result, leaned_step_by_step(program, False))
            self.assertEqual(result, leaned_step_by_step(program, True))
            self.assertEqual(without_needless(result), result)
            self.assertEqual(needless(result), [])
            self.assertLessEqual(program_size(result)[0], program_size(program)[0])
            if result != program:
                changed += 1
                self.assertTrue(are_same(program, result, 5), program)
        self.assertGreater(changed, 100)


class Errors(unittest.TestCase):
    def test_no_programs(self):
        for value, path in NO_PROGRAMS:
            for function in (new_shells, needless, without_needless):
                assert_error(self, InvalidProgram, path, function, value)

    def test_new_lists_and_keywords(self):
        program = read_program("( a ; put x 1 ) ; ( b )")
        shells = new_shells(program=program)
        shells[0][1].append(3)
        shells.clear()
        self.assertEqual(new_shells(program), [((-1, 0, 0), [("variable", "x")]), ((-1, 1, 0), [])])
        needless(program=program).clear()
        self.assertEqual(needless(program), [(-1, 1)])
        self.assertEqual(program_text(without_needless(program=program)), "( a ; put x 1 ) ; b")


if __name__ == "__main__":
    unittest.main()
