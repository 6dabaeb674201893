"""[3.2] begun_trees and first_row, [3.3] ways_out, [3.4] ends."""

import unittest

from shellways.errors import InvalidPath, InvalidProgram, TooLarge
from shellways.loops import begun_trees, ends, first_row, ways_out
from shellways.machines import situations
from shellways.plans import all_nodes, plan_of
from shellways.texts import read_program
from tests.reference import first_events
from tests.samples import Sampler
from tests.trees import A, B, main, status
from tests.wrong import NO_PATHS, NO_PROGRAMS, assert_error

LARGE = main(("times", 999, A))


class BegunTrees(unittest.TestCase):
    def assert_rows(self, text, *expected):
        """Just these trees are begun, and these are the least rows."""
        program = read_program(text)
        self.assertEqual(begun_trees(program), [path for path, _ in expected])
        for path, row in expected:
            self.assertEqual(first_row(program, path), row, path)

    def test_example(self):
        program = ((), ("seq", (("until", ("run", "a"), ("break", 1)), ("exit", None), ("run", "b"))))
        self.assertEqual(begun_trees(program), [(-1,), (-1, 0), (-1, 0, 0), (-1, 0, 1), (-1, 1)])
        self.assertEqual(first_row(program, (-1, 0, 1)), [1])
        self.assertEqual(first_row(program, (-1, 1)), [0])
        self.assertIsNone(first_row(program, (-1, 2)))

    def test_rows(self):
        self.assert_rows("a && b || c", ((-1,), []), ((-1, 0), []), ((-1, 0, 0), []), ((-1, 0, 1), [0]), ((-1, 1), [1]))
        self.assert_rows("a ; b ; c", ((-1,), []), ((-1, 0), []), ((-1, 1), [0]), ((-1, 2), [0, 0]))
        self.assert_rows("if ! a then b else c end", ((-1,), []), ((-1, 0), []), ((-1, 0, 0), []), ((-1, 1), [1]),
                         ((-1, 2), [0]))

    def test_shorter_rows_go_first(self):
        # c comes behind [1] and behind [0, 0, 0].
        self.assert_rows("def f { c } if a then b ; b ; call f else call f end", ((0,), [1]), ((-1,), []), ((-1, 0), []),
                         ((-1, 1), [0]), ((-1, 1, 0), [0]), ((-1, 1, 1), [0, 0]), ((-1, 1, 2), [0, 0, 0]), ((-1, 2), [1]))

    def test_begun_without_asking(self):
        self.assert_rows("status 0 ; put x 3", ((-1,), []), ((-1, 0), []), ((-1, 1), []))
        self.assert_rows("if status 3 then a else exit 2 end", ((-1,), []), ((-1, 0), []), ((-1, 2), []))

    def test_traps_and_functions(self):
        self.assert_rows("def g { b } def f { a && call g } trap end { z } ; call f", ((0,), [0]), ((1,), []), ((1, 0), []),
                         ((1, 1), [0]), ((-1,), []), ((-1, 0), []), ((-1, 0, 0), [1]), ((-1, 1), []))
        self.assert_rows("trap fail { z } ; a ; b", ((-1,), []), ((-1, 0), []), ((-1, 0, 0), [1]), ((-1, 1), []),
                         ((-1, 2), [0]))

    def test_silent(self):
        # The 1001st tree is not begun: the loop itself, then 499 rounds of two trees, and one condition.
        self.assert_rows("a ; while status 0 do status 0 end ; b", ((-1,), []), ((-1, 0), []), ((-1, 1), [0]),
                         ((-1, 1, 0), [0]), ((-1, 1, 1), [0]))
        program = main(*[status(0)] * 1005)
        self.assertEqual(begun_trees(program), [(-1,)] + [(-1, place) for place in range(999)])
        self.assertIsNone(first_row(program, (-1, 999)))
        self.assertEqual(first_row(program, (-1, 998)), [])

    def test_kinds(self):
        rows = first_row(read_program("a ; b"), (-1, 1))
        self.assertEqual((type(rows), [type(entry) for entry in rows]), (list, [int]))
        self.assertIs(type(begun_trees(main(A))), list)
        begun_trees(main(A)).clear()
        self.assertEqual(begun_trees(program=main(A)), [(-1,)])
        self.assertEqual(first_row(program=main(A), path=(-1,)), [])


class WaysOut(unittest.TestCase):
    def assert_ways(self, text, path, **expected):
        self.assertEqual(ways_out(read_program(text), path), expected, text)

    def test_examples(self):
        program = ((), ("seq", (("option", "fail", True), ("while", ("run", "a"), ("run", "b")))))
        self.assertEqual(ways_out(program, (-1, 1)), {"check": [0, 1], "over": [1]})
        self.assertEqual(ends(program), {"check": [0, 1], "over": [1]})

    def test_over(self):
        self.assert_ways("while a do b end", (-1,), over=[1])
        self.assert_ways("until a do b end", (-1,), over=[0])
        self.assert_ways("times 2 do a end", (-1,), over=[0, 0])
        self.assert_ways("times 0 do a end", (-1,), over=[])
        self.assert_ways("times 3 do next 1 end", (-1,), over=[])
        self.assert_ways("def f { a } call f", (-1,), over=[0])
        self.assert_ways("while status 0 do a end", (-1,))

    def test_break_and_next(self):
        inner = "while a do until b do {} end end"
        self.assert_ways(inner.format("break 1"), (-1, 1), over=[0, 0], **{"break": [0, 1]})
        self.assert_ways(inner.format("break 1"), (-1,), over=[1])
        self.assert_ways(inner.format("break 2"), (-1, 1), over=[0, 0], **{"break": [0, 1]})
        self.assert_ways(inner.format("break 2"), (-1,), over=[1], **{"break": [0, 1]})
        self.assert_ways(inner.format("next 1"), (-1, 1), over=[0, 0])
        self.assert_ways(inner.format("next 2"), (-1, 1), over=[0, 0], next=[0, 1])
        self.assert_ways(inner.format("next 2"), (-1,), over=[1])
        self.assert_ways("times 2 do while break 2 do a end end", (-1, 0), **{"break": []})

    def test_return(self):
        text = "def f { while a do times 2 do b && return end end } call f"
        self.assert_ways(text, (0, 1), over=[0, 1, 1], **{"return": [0, 0]})
        self.assert_ways(text, (0,), over=[1], **{"return": [0, 0]})
        self.assert_ways(text, (-1,), over=[1], **{"return": [0, 0]})
        # A return leaves its own function alone.
        self.assert_ways("def g { return } def f { call g ; a } call f", (-1,), over=[0])
        self.assert_ways("def g { return } def f { call g ; a } call f", (1, 0), **{"return": []})

    def test_exit_and_check(self):
        text = "def f { a && exit } while b do call f end"
        self.assert_ways(text, (-1,), over=[1], exit=[0, 0])
        self.assert_ways(text, (-1, 1), over=[0, 1], exit=[0, 0])
        text = "option fail on ; while a do ( exit 3 ) end"
        self.assert_ways(text, (-1, 1), over=[1], check=[0])
        # An exit in a new shell does not leave the loop around it.
        self.assert_ways("while a do ( exit 3 ) end", (-1,), over=[1])
        self.assert_ways("( while a do exit 3 end )", (-1, 0), over=[1], exit=[0])

    def test_check_behind_call(self):
        # The body is finished, then the check ends the shell.
        self.assert_ways("def f { a && b } option fail on ; call f", (-1, 1), over=[1], check=[0, 1])
        self.assert_ways("def f { a && b } option fail on ; times 1 do call f end", (-1, 1), over=[0, 0], check=[1])

    def test_fail_traps(self):
        # The shell ends by the check when the body of the trap is finished.
        self.assert_ways("trap fail { z } ; option fail on ; times 2 do a end", (-1, 2), over=[0, 0], check=[1, 0])
        self.assert_ways("trap fail { z ; exit } ; times 2 do a end", (-1, 1), over=[0, 0], exit=[1, 0])
        self.assert_ways("trap fail { until z do b end } ; a", (-1, 0, 0), over=[1, 0])

    def test_end_traps(self):
        text = "trap end { while z do exit 4 end } ; times 2 do a ; exit end"
        self.assert_ways(text, (-1, 1), exit=[0])
        self.assert_ways(text, (-1, 0, 0), over=[0, 1], exit=[0, 0])

    def test_never_begun(self):
        self.assert_ways("exit ; while a do b end", (-1, 1))
        self.assert_ways("def f { times 2 do a end } b", (0,))


class Ends(unittest.TestCase):
    def assert_ends(self, text, **expected):
        self.assertEqual(ends(read_program(text)), expected, text)

    def test_ways(self):
        self.assert_ends("a", over=[0])
        self.assert_ends("status 3", over=[])
        self.assert_ends("exit", exit=[])
        self.assert_ends("a && exit ; b", exit=[0], over=[1, 0])
        self.assert_ends("option fail on ; a ; b", check=[1], over=[0, 0])
        self.assert_ends("while status 0 do a end")

    def test_end_traps_do_not_count(self):
        self.assert_ends("trap end { z ; exit 3 } ; a", over=[0])
        self.assert_ends("trap end { z ; exit 3 } ; option fail on ; a", over=[0], check=[1])
        self.assert_ends("trap end { while status 0 do status 0 end } ; a", over=[0])

    def test_new_shells_do_not_count(self):
        self.assert_ends("( exit 3 ) ; a", over=[0])
        self.assert_ends("option fail on ; ! ( a ; b )", over=[0, 0])
        self.assert_ends("option fail on ; ( a ; b )", check=[1], over=[0, 0])

    def test_in_functions_and_traps(self):
        self.assert_ends("def f { a || exit } call f ; b", exit=[1], over=[0, 0])
        self.assert_ends("trap fail { z && exit } ; a ; b", exit=[1, 0], over=[0, 0])
        self.assert_ends("trap fail { z } ; option fail on ; a", check=[1, 0], over=[0])


class Samples(unittest.TestCase):
    def test_samples(self):
        """All rows up to a length, in a second way."""
        for seed in range(250):
            program = Sampler(seed).program((6, 12, 25, 40)[seed % 4])
            try:
                plan = plan_of(program)
            except InvalidProgram:
                continue
            if situations(program) > 60:
                continue
            firsts = first_events(program, 5)
            self.compare(firsts, (), ends(program))
            begun = begun_trees(program)
            for node in all_nodes(plan):
                self.compare_row(program, firsts, node.path, begun)
                if node.word in ("while", "until", "times", "call"):
                    self.compare(firsts, node.path, ways_out(program, node.path))

    def compare(self, firsts, path, ways):
        found = {way: row for (place, way), row in firsts.items() if place == path and way != "begun"}
        self.assertEqual({way: row for way, row in ways.items() if len(row) <= 5}, found)

    def compare_row(self, program, firsts, path, begun):
        if (path, "begun") in firsts:
            self.assertEqual(first_row(program, path), firsts[(path, "begun")])
            self.assertIn(path, begun)
        elif path in begun:
            self.assertGreater(len(first_row(program, path)), 5)


class Errors(unittest.TestCase):
    def test_programs(self):
        for value, path in NO_PROGRAMS:
            for function, arguments in ((begun_trees, ()), (ends, ()), (first_row, (None,)), (ways_out, (None,))):
                assert_error(self, InvalidProgram, path, function, value, *arguments)

    def test_paths(self):
        program = ((("f", ("times", 1, A)),), ("seq", (("call", "f"), ("while", A, B))))
        for path in NO_PATHS + ((1,), (0, 1), (0, 0, 0), (-1, 2), (-1, 0, 0), (-1, 1, 2), [-1]):
            assert_error(self, InvalidPath, path, first_row, program, path)
            assert_error(self, InvalidPath, path, ways_out, program, path)
        for path in ((-1,), (0, 0), (-1, 1, 0), (-1, 1, 1)):
            assert_error(self, InvalidPath, path, ways_out, program, path)
        self.assertEqual(ways_out(program=program, path=(0,)), {"over": [0]})

    def test_too_large(self):
        assert_error(self, TooLarge, 1000, begun_trees, LARGE)
        assert_error(self, TooLarge, 1000, ends, LARGE)
        assert_error(self, TooLarge, 1000, first_row, LARGE, (-1,))
        assert_error(self, TooLarge, 1000, ways_out, LARGE, (-1,))
        assert_error(self, InvalidPath, (-1, 1), first_row, LARGE, (-1, 1))
        assert_error(self, InvalidPath, (-1, 0), ways_out, LARGE, (-1, 0))
        self.assertEqual(len(first_row(main(("times", 998, A)), (-1,))), 0)
        self.assertEqual(ends(main(("times", 998, A))), {"over": [0] * 998})

    def test_results_are_new(self):
        program = read_program("while a do b end")
        ways_out(program, (-1,))["over"].append(3)
        ends(program).clear()
        first_row(program, (-1, 1)).append(3)
        self.assertEqual((ways_out(program, (-1,)), ends(program), first_row(program, (-1, 1))),
                         ({"over": [1]}, {"over": [1]}, [0]))


if __name__ == "__main__":
    unittest.main()
