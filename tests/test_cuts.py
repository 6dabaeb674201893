"""Cuts that leave programs alike, and trees for which it matters that they are checked."""

import unittest

from shellways.alike import alike
from shellways.errors import InvalidProgram, TooLarge
from shellways.programs import check_program, program_size
from shellways.rewriting import first_cut, guarded, leaned
from shellways.texts import program_text, read_program
from tests.samples import RichSampler, Sampler, sampled
from tests.trees import A, B, C, FAIL_ON, main, nested, seq, status
from tests.wrong import NO_PROGRAMS, assert_error

PLACES = {"trap": (2,), "and": (1, 2), "or": (1, 2), "not": (1,), "if": (1, 2, 3), "while": (1, 2), "until": (1, 2),
          "times": (2,), "sub": (1,)}
CHECKS = ("run", "status", "give", "zero", "call", "sub", "pipe")


def inner(tree):
    """The trees directly inside a tree, with a function that puts another one into the place of each."""
    if tree[0] in ("seq", "pipe"):
        def at(k):
            return lambda new: (tree[0], tree[1][:k] + (new,) + tree[1][k + 1:])
        return [(part, at(k)) for k, part in enumerate(tree[1])]

    def put(k):
        return lambda new: tree[:k] + (new,) + tree[k + 1:]
    return [(tree[k], put(k)) for k in PLACES.get(tree[0], ()) if tree[k] is not None]


def places(tree, path, put):
    """Yields the tuples (path, tree, put) of a tree and of all inside it, in reading order."""
    yield path, tree, put
    for k, (part, change) in enumerate(inner(tree)):
        def inside(new, change=change):
            return put(change(new))
        yield from places(part, path + (k,), inside)


def all_places(program):
    functions, body = program
    for number, (name, tree) in enumerate(functions):
        def put(new, number=number, name=name):
            return (functions[:number] + ((name, new),) + functions[number + 1:], body)
        yield from places(tree, (number,), put)
    yield from places(body, (-1,), lambda new: (functions, new))


def is_same(program, other):
    try:
        check_program(other)
    except InvalidProgram:
        return False
    return alike(program, other)


def plain_first_cut(program):
    for path, tree, put in all_places(program):
        parts = [part for part, _ in inner(tree)]
        lesser = [status(0)] + parts if parts else []
        if tree[0] == "seq" and len(parts) >= 3:
            lesser += [("seq", tuple(parts[:k] + parts[k + 1:])) for k in range(len(parts))]
        for new in lesser:
            if is_same(program, put(new)):
                return path, new
    return None


def plain_guarded(program):
    return [path for path, tree, put in all_places(program)
            if tree[0] in CHECKS and not alike(program, put(("and", tree, status(0))))]


def both_samples(seeds, sizes, most):
    for kind in (Sampler, RichSampler):
        for program, _ in sampled(seeds, sizes, kind):
            if program_size(program)[0] <= most:
                yield program


class Cuts(unittest.TestCase):
    def test_examples(self):
        program = main(("sub", A), ("not", ("not", B)), ("exit", 0))
        self.assertEqual(first_cut(program), ((-1, 0), A))
        self.assertEqual(leaned(program), main(A, B, ("exit", 0)))
        self.assertEqual(guarded(main(FAIL_ON, ("and", A, B), C)), [(-1, 1, 1)])

    def test_each_kind_of_tree(self):
        for text, path, cut in (
                ("a", None, None), ("a ; b", None, None), ("status 0 ; a", (-1,), "a"), ("a ; exit", (-1,), "a"),
                ("a ; b ; exit 3 ; c", (-1,), "a ; b ; exit 3"), ("status 0 ; a ; b", (-1,), "a ; b"),
                ("a ; status 3 ; b", (-1,), "a ; b"), ("keep x ; a ; b", (-1,), "a ; b"), ("a ; put x 1 ; b", (-1,), "a ; b"),
                ("status 0 ; status 0", (-1,), "status 0"), ("status 0 ; put x 1 ; status 0", (-1,), "status 0"),
                ("a && status 0", (-1,), "a"), ("a || a && status 3", (-1, 1), None), ("status 0 && a", (-1,), "a"),
                ("status 1 || a", (-1,), "a"), ("status 0 || a", (-1,), "status 0"), ("! ! a", None, None),
                ("if status 0 then a end", (-1,), "a"), ("if a then status 0 end ; b", (-1, 0), "a"),
                ("if a then b else b end", None, None), ("while status 1 do a end", (-1,), "status 0"),
                ("until status 0 do a end ; b", (-1,), "b"), ("times 0 do a end ; b", (-1,), "b"), ("times 1 do a end", (-1,), "a"),
                ("times 2 do a end", None, None), ("times 1 do a ; break 1 end ; b", (-1, 0), None),
                ("trap end { status 0 } ; a", (-1,), "a"), ("trap end { a } ; b", None, None), ("( a )", (-1,), "a"),
                ("a | b", (-1,), None), ("status 3 | a", (-1,), "a"), ("trap fail { a } ; b && c", None, None)):
            program = read_program(text)
            found = first_cut(program)
            self.assertEqual(found, plain_first_cut(program), text)
            if path is None or cut is not None:
                self.assertEqual(found, path and (path, read_program(cut)[1]), text)

    def test_trees_in_functions(self):
        program = ((("g", seq(status(0), A)), ("h", ("not", ("not", B)))), seq(("call", "g"), C))
        self.assertEqual(first_cut(program), ((0,), A))
        # What nothing calls can be cut, but the function stays.
        self.assertEqual(leaned(program), ((("g", A), ("h", status(0))), seq(("call", "g"), C)))
        program = ((("g", A),), B)
        self.assertIsNone(first_cut(program))
        self.assertEqual(leaned(program), program)

    def test_cuts_that_are_no_programs(self):
        program = main(("while", A, ("and", B, ("break", 1))), C)
        self.assertEqual(first_cut(program), plain_first_cut(program))
        program = ((("g", seq(A, ("return", None))),), ("sub", ("call", "g")))
        self.assertEqual(first_cut(program), plain_first_cut(program))

    def test_samples(self):
        none = 0
        for program in both_samples(range(400), (3, 5, 8, 12, 20), 30):
            try:
                expected = plain_first_cut(program)
            except TooLarge:
                continue
            found = first_cut(program)
            self.assertEqual(found, expected, program)
            none += found is None
        self.assertGreater(none, 30)

    def test_leaned(self):
        for program in both_samples(range(150), (5, 8, 12, 20), 30):
            lean = program
            while first_cut(lean) is not None:
                path, tree = first_cut(lean)
                lean = [put(tree) for other, _, put in all_places(lean) if other == path][0]
            found = leaned(program)
            self.assertEqual(found, lean, program)
            self.assertEqual([name for name, _ in found[0]], [name for name, _ in program[0]])
            self.assertTrue(is_same(program, found))

    def test_thirty_trees(self):
        for count, text in ((30, "a ; " * 28 + "a"), (30, "! " * 29 + "a")):
            program = read_program(text)
            self.assertEqual(program_size(program)[0], count)
            self.assertEqual([first_cut(program), leaned(program)], [plain_first_cut(program), leaned(program)])
        for program in (read_program("a ; " * 29 + "a"), main(*[("times", 90, A)] * 15)):
            for function in (first_cut, leaned):
                assert_error(self, TooLarge, 30, function, program)
        for program in (read_program("times 500 do a ; b end"), ((("g", nested(lambda tree: ("not", tree), 20, A)),),
                                                                 ("times", 900, seq(B, C)))):
            for function in (first_cut, leaned):
                assert_error(self, TooLarge, 1000, function, program)
        # Functions that nothing calls count.
        program = ((("g", nested(lambda tree: ("not", tree), 28, A)),), B)
        self.assertEqual(first_cut(program), ((0,), status(0)))
        program = ((("g", nested(lambda tree: ("not", tree), 29, A)),), B)
        assert_error(self, TooLarge, 30, first_cut, program)

    def test_many_situations(self):
        program = read_program("times 499 do a ; b end")
        self.assertIsNone(first_cut(program))
        program = read_program("status 0 ; times 499 do a ; b end")
        self.assertEqual(leaned(program), read_program("times 499 do a ; b end"))

    def test_errors(self):
        for function in (first_cut, leaned, guarded):
            for program, path in NO_PROGRAMS:
                assert_error(self, InvalidProgram, path, function, program)


class Guarded(unittest.TestCase):
    def test_each_kind_in_checked_and_tested_places(self):
        for text, expected in (
                ("a ; b", ""), ("option fail on ; a ; b", "a"), ("option fail on ; a", ""), ("option fail on ; status 3 ; a", "status 3"),
                ("option fail on ; status 0 ; a", ""), ("a ; keep x ; option fail on ; give x ; b", "give x"),
                ("a ; keep x ; option fail on ; zero x ; b", "zero x"), ("option fail on ; ( a ) ; b", "( a )"),
                ("option fail on ; ( a && b ) ; c", "( a && b )"), ("option fail on ; a | b ; c", "a | b"),
                ("option fail on ; ! a ; b", ""), ("option fail on ; a && b ; c", "b"), ("trap fail { a } ; b", "b"),
                ("option fail on ; if a then b else c end ; a", "b/c"), ("trap fail { a } ; b ; b", "b/b"),
                ("option fail on ; trap end { a ; b } ; c ; a", "c"), ("option fail on ; ( exit 3 ) ; a", "( exit 3 )"),
                ("option fail on ; until a do b end ; c", "b"), ("option fail on ; option pipes on ; a | status 0 ; c", "a | status 0")):
            program = read_program(text)
            found = guarded(program)
            self.assertEqual(found, plain_guarded(program), text)
            texts = [program_text(((), tree)) for path, tree, _ in all_places(program) if path in found]
            self.assertEqual("/".join(texts), expected, text)

    def test_functions_that_are_called_in_both_places(self):
        body = ("and", A, B)
        for tree in (seq(FAIL_ON, ("call", "g"), C), seq(FAIL_ON, ("not", ("call", "g")), C), seq(FAIL_ON, ("or", ("call", "g"), ("call", "g")), C),
                     seq(("call", "g"), FAIL_ON, C)):
            program = ((("g", body),), tree)
            self.assertEqual(guarded(program), plain_guarded(program))
        self.assertEqual(guarded(((("g", body),), seq(FAIL_ON, ("call", "g"), C))), [(-1, 1)])
        self.assertEqual(guarded(((("g", A),), seq(FAIL_ON, ("not", ("call", "g")), C))), [])

    def test_samples(self):
        some = 0
        for program in both_samples(range(250), (5, 8, 12, 20), 37):
            program = (program[0], seq(FAIL_ON, program[1], C))
            try:
                expected = plain_guarded(program)
            except (TooLarge, InvalidProgram):
                continue
            self.assertEqual(guarded(program), expected, program)
            some += len(expected) > 0
        self.assertGreater(some, 30)

    def test_forty_trees(self):
        program = main(FAIL_ON, *[A] * 38)
        self.assertEqual(guarded(program), [(-1, place) for place in range(1, 38)])
        assert_error(self, TooLarge, 40, guarded, main(FAIL_ON, *[A] * 39))
        assert_error(self, TooLarge, 40, guarded, main(*[("times", 70, A)] * 20))
        assert_error(self, TooLarge, 1000, guarded, main(FAIL_ON, ("times", 1000, A)))

    def test_programs_that_would_become_too_large(self):
        """The changed program may have a larger unfolded size than a program may have."""
        program = main(FAIL_ON, ("times", 700, seq(A, ("exit", 0))))
        self.assertEqual(program_size(program), (6, 2103))
        self.assertEqual(guarded(program), [(-1, 1, 0, 0)])
        program = main(FAIL_ON, ("times", 700, seq(("not", A), ("exit", 0))))
        self.assertEqual(guarded(program), [])


if __name__ == "__main__":
    unittest.main()
