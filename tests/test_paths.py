"""asked_paths: the runs that were told a status, in the order of telling."""

import unittest

from shellways.shells import asked_paths, run
from tests.trees import A, B, C, FAIL_ON, Z, main, nested, pipe, seq, status


class AskedPaths(unittest.TestCase):
    def check(self, program, row, paths):
        result = asked_paths(program, row)
        self.assertEqual(result, paths)
        self.assertIs(type(result), list)
        for path in result:
            self.assertIs(type(path), tuple)
        self.assertEqual(asked_paths(program=program, row=tuple(row)), paths)
        self.assertEqual(len(run(program, row)[0]), len(paths))

    def test_only_told_runs(self):
        self.check(main(A, B), [], [])
        self.check(main(A, B), [0], [(-1, 0)])
        self.check(main(A, B), [0, 0, 0], [(-1, 0), (-1, 1)])
        self.check(main(A), [5], [(-1,)])
        self.check(main(status(0)), [5], [])

    def test_places_of_parts(self):
        for tree, row, path in (
                (("and", A, B), [0, 0], (1,)), (("or", A, B), [1, 0], (1,)), (("not", A), [0], (0,)),
                (("if", A, B, C), [0, 0], (1,)), (("if", A, B, C), [1, 0], (2,)),
                (("while", A, B), [0, 0], (1,)), (("until", A, B), [1, 0], (1,)),
                (("times", 2, A), [0], (0,)), (("sub", A), [0], (0,)), (pipe(A, B), [0, 0], (1,)),
                (seq(A, B, C), [0, 0, 0], (2,)),
                (seq(("trap", "end", Z), A), [0, 0], (0, 0))):
            self.assertEqual(asked_paths(main(tree), row)[-1], (-1,) + path, tree)

    def test_loops(self):
        self.check(main(("until", A, B)), [1, 0], [(-1, 0), (-1, 1)])
        self.check(main(("while", A, B)), [0, 1, 0, 1, 1], [(-1, 0), (-1, 1)] * 2 + [(-1, 0)])
        self.check(main(("times", 3, seq(A, B))), [1] * 5,
                   [(-1, 0, 0), (-1, 0, 1)] * 2 + [(-1, 0, 0)])

    def test_functions(self):
        functions = (("f", seq(A, B)), ("g", ("and", ("call", "f"), ("call", "f"))))
        program = (functions, seq(("call", "g"), A, ("call", "f")))
        self.check(program, [0] * 7, [(0, 0), (0, 1)] * 2 + [(-1, 1)] + [(0, 0), (0, 1)])
        self.check(((("f", A), ("g", B)), seq(("call", "g"), ("call", "f"))), [3, 4],
                   [(1,), (0,)])

    def test_traps(self):
        program = main(("trap", "fail", ("sub", Z)), ("trap", "end", seq(B, Z)), A, A)
        self.check(program, [1, 0, 2, 0, 3, 4],
                   [(-1, 2), (-1, 0, 0, 0), (-1, 3), (-1, 0, 0, 0), (-1, 1, 0, 0), (-1, 1, 0, 1)])
        program = ((("g", ("trap", "end", Z)),), seq(("call", "g"), A))
        self.check(program, [1, 2], [(-1, 1), (0, 0)])

    def test_same_tree_in_several_places(self):
        self.check(main(A, A, ("not", A)), [1, 2, 3], [(-1, 0), (-1, 1), (-1, 2, 0)])

    def test_stops_where_the_program_stops(self):
        self.check(main(FAIL_ON, A, B), [5, 0], [(-1, 1)])
        self.check(main(A, ("while", status(0), status(0)), B), [5, 0], [(-1, 0)])

    def test_long_paths(self):
        deep = nested(lambda tree: ("and", A, tree), 58, A)
        paths = [(-1,) + (1,) * depth + (0,) for depth in range(58)] + [(-1,) + (1,) * 58]
        self.check(main(deep), [0] * 60, paths)

    def test_list_is_new(self):
        program = main(A, B)
        first = asked_paths(program, [0])
        first.append((0,))
        self.assertEqual(asked_paths(program, [0]), [(-1, 0)])


if __name__ == "__main__":
    unittest.main()
