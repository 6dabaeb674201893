"""[8.1] machine and situations, [8.2] after, [8.3] check_machine."""

import unittest

from shellways.errors import InvalidMachine, InvalidProgram, InvalidRow, TooLarge
from shellways.machines import after, check_machine, machine, situations
from shellways.programs import command_names
from shellways.texts import read_program
from tests.reference import Told, reference_machine
from tests.samples import RichSampler, sampled
from tests.trees import A, B, C, FAIL_ON, PIPES_ON, Z, main, pipe, seq, status
from tests.wrong import NO_PROGRAMS, NO_ROWS, assert_error


def of_text(text):
    return machine(read_program(text))


class Machines(unittest.TestCase):
    def test_examples(self):
        self.assertEqual(of_text("a || b"), [
            ("ask", (-1, 0), "a", 0, (1, ()), (2, ())), ("end", 0), ("ask", (-1, 1), "b", 0, (1, ()), (3, ("now",))),
            ("end", "slot")])
        self.assertEqual(situations(read_program("a ; keep x ; a ; keep y ; a")), 9)

    def test_nothing_is_asked(self):
        self.assertEqual(of_text("status 0"), [("end", 0)])
        self.assertEqual(of_text("status 7"), [("end", 7)])
        self.assertEqual(of_text("while status 0 do status 0 end"), [("silent",)])
        self.assertEqual(situations(main(status(3))), 1)

    def test_kinds_of_values(self):
        for entry in of_text("a ; keep x ; b ; give x"):
            self.assertIs(type(entry), tuple)
            for step in entry[4:]:
                self.assertEqual([type(part) for part in (step, *step)], [tuple, int, tuple])
        self.assertIs(type(of_text("a")), list)
        self.assertIs(type(situations(main(A))), int)

    def test_order(self):
        """Behind 0 first, and situations found earlier before later ones."""
        self.assertEqual([entry[2] for entry in of_text("if a then if b then c else d end else if e then f else g end end")
                          if entry[0] == "ask"], ["a", "b", "e", "c", "d", "f", "g"])
        self.assertEqual([entry[:2] for entry in of_text("if a then status 5 else status 6 end")],
                         [("ask", (-1, 0)), ("end", 5), ("end", 6)])

    def test_ends_with_numbers_and_slots(self):
        self.assertEqual(of_text("a"), [("ask", (-1,), "a", 0, (1, ()), (2, ("now",))), ("end", 0), ("end", "slot")])
        self.assertEqual(of_text("! a"), [("ask", (-1, 0), "a", 0, (1, ()), (2, ())), ("end", 1), ("end", 0)])
        # Ends with failures that come from different tellings are one situation.
        self.assertEqual([entry for entry in of_text("a && b && c") if entry[0] == "end"], [("end", "slot"), ("end", 0)])

    def test_symbols_may_be_exchanged(self):
        """Two failures are held in x and y, whichever came first."""
        both = of_text("if a then b ; keep x ; c ; keep y else c ; keep y ; b ; keep x end ; d")
        holding = [entry for entry in both if entry[2:4] == ("d", 2)]
        self.assertEqual(len(holding), 1)
        number = both.index(holding[0])
        moves = sorted(str(step[1]) for entry in both if entry[0] == "ask" for step in entry[4:] if step[0] == number)
        self.assertEqual(moves, [str(("now", 0)), str((0, "now"))])

    def test_one_symbol_in_two_places(self):
        once = of_text("a ; keep x ; give x ; keep y ; b")
        self.assertEqual([entry[3] for entry in once if entry[0] == "ask"], [0, 0, 1])
        self.assertEqual([entry[:4] for entry in of_text("a ; keep x ; b ; keep y ; c ; give y")][3:5],
                         [("ask", (-1, 4), "c", 0), ("ask", (-1, 4), "c", 1)])

    def test_order_of_slots(self):
        """Variables go in ascending order, shell by shell, ahead of what trees hold."""
        rows = of_text("a ; keep y ; b ; keep x ; c ; give y")
        full = [entry for entry in rows if entry[2:4] == ("c", 2)]
        self.assertEqual(len(full), 1)
        # Slot 0 is x, slot 1 is y, which is given back.
        self.assertEqual([step[1] for step in full[0][4:]], [(1,), (1,)])
        rows = of_text("a ; keep z ; ( keep y ; b ; keep x ; c )")
        self.assertEqual(max(entry[3] for entry in rows if entry[0] == "ask"), 2)

    def test_held_by_loops(self):
        # The status of the last body, while the condition is carried out; not in the body.
        rows = of_text("while a do b end")
        self.assertEqual([entry[1:4] for entry in rows if entry[0] == "ask"],
                         [((-1, 0), "a", 0), ((-1, 1), "b", 0), ((-1, 0), "a", 1)])
        self.assertEqual(rows[3], ("ask", (-1, 0), "a", 1, (1, ()), (4, (0,))))
        self.assertEqual(rows[4], ("end", "slot"))
        self.assertEqual(len(of_text("until a do b ; status 3 end")), 5)
        self.assertEqual(len(of_text("until a do b ; status 0 end")), 3)
        self.assertEqual(len(of_text("until a do b ; next 1 end")), 3)

    def test_held_by_pipes(self):
        # The status at the start and the last failure are held also with the option off.
        rows = of_text("a | b | c")
        self.assertEqual([entry[2:4] for entry in rows if entry[0] == "ask"],
                         [("a", 0), ("b", 0), ("b", 1), ("c", 0), ("c", 1)])
        rows = of_text("a ; { b | c }")
        self.assertEqual([entry[2:4] for entry in rows if entry[0] == "ask"],
                         [("a", 0), ("b", 0), ("b", 1), ("c", 0), ("c", 1), ("c", 1), ("c", 2)])
        self.assertEqual(len(of_text("status 3 ; { b | c }")) - len(of_text("b | c")), 0)

    def test_held_by_traps(self):
        rows = of_text("trap fail { z } ; a ; b")
        self.assertEqual([entry[2:4] for entry in rows if entry[0] == "ask"],
                         [("a", 0), ("b", 0), ("z", 1), ("z", 1)])
        rows = of_text("trap end { z } ; a")
        self.assertEqual([entry[2:4] for entry in rows if entry[0] == "ask"], [("a", 0), ("z", 0), ("z", 1)])

    def test_told_apart(self):
        # Options, traps, rounds, calls, shells and end traps that were carried out tell situations apart.
        for text, many in (("a && option pipes on ; b", 5), ("a && trap end { z } ; b", 7), ("a && trap end off ; b", 4),
                           ("times 3 do a end", 5), ("times 2 do times 2 do a end end", 6),
                           ("def f { a } call f ; call f", 4), ("( a ) ; ( a )", 4),
                           ("if a then trap fail { z } else trap fail { z } end ; b", 7),
                           # The bodies are those of two traps, also when neither is set any more.
                           ("if a then trap fail { trap fail off ; z } else trap fail { trap fail off ; z } end ; b", 7),
                           ("if a then trap end { trap end off ; z } else trap end { trap end off ; z } end ; b", 9)):
            self.assertEqual(situations(read_program(text)), many, text)

    def test_end_traps_of_parts(self):
        """The same trap tree ends two parts of a pipe, which are told apart."""
        self.assertEqual([entry[:3] for entry in of_text("def f { trap end { c } } call f | call f | a")],
                         [("ask", (0, 0), "c")] * 2 + [("ask", (-1, 2), "a"), ("end", 0), ("end", "slot")])

    def test_same_number_of_a_variable(self):
        self.assertEqual(situations(read_program("if a then put x 3 else put x 3 end ; b")), 4)
        self.assertEqual(situations(read_program("if a then put x 3 else put x 4 end ; b")), 5)
        self.assertEqual(situations(read_program("a ; keep x ; put x 0 ; b")), 4)

    def test_silence(self):
        self.assertEqual(of_text("if a then until status 1 do status 0 end end"), [
            ("ask", (-1, 0), "a", 0, (1, ()), (2, ())), ("silent",), ("end", 0)])
        # A thousand trees may be begun behind each status, and not one more.
        self.assertEqual(situations(main(A, *[status(0)] * 1000)), 2)
        self.assertEqual(of_text("a ; " + " ; ".join(["status 0"] * 1000))[1], ("end", 0))
        self.assertEqual(of_text("a ; " + " ; ".join(["status 0"] * 1001))[1], ("silent",))

    def test_function_that_nothing_calls(self):
        rows = machine(((("f", A), ("g", B)), ("call", "g")))
        self.assertEqual(rows, [("ask", (1,), "b", 0, (1, ()), (2, ("now",))), ("end", 0), ("end", "slot")])

    def test_program_within_subshell(self):
        for program, _ in sampled(range(0, 120), (6, 12)):
            inner = machine(program)
            outer = machine((program[0], ("sub", program[1])))
            self.assertEqual(len([entry for entry in outer if entry[0] == "ask"]),
                             len([entry for entry in inner if entry[0] == "ask"]))

    def test_limit(self):
        for many in (998, 999):
            # One run less than situations, and two ends.
            program = main(("times", many - 1, ("not", ("not", A))))
            self.assertEqual(situations(program), many + 1)
        program = main(("times", 998, A))
        self.assertEqual(situations(program), 1000)
        self.assertEqual(len(machine(program)), 1000)
        program = main(("times", 999, A))
        for function, arguments in ((machine, ()), (situations, ()), (after, ([],)), (check_machine, ([],))):
            assert_error(self, TooLarge, 1000, function, program, *arguments)
        assert_error(self, TooLarge, 1000, situations, main(("times", 500, ("seq", (("keep", "x"), A, A)))))

    def test_samples(self):
        """The same machines as found by a second way to carry out programs."""
        self.compare(sampled(range(800), (3, 6, 12, 25, 40)), 30)

    def test_samples_that_keep_much(self):
        self.compare(sampled(range(600), (12, 20, 30, 40), RichSampler), 60)

    def compare(self, samples, least):
        largest = 0
        for program, _ in samples:
            expected = reference_machine(program, command_names(program)[1], 120)
            if expected is not None:
                rows = machine(program)
                self.assertEqual(rows, expected, program)
                self.assertEqual(situations(program), len(rows))
                self.assertIsNone(check_machine(program, rows))
                largest = max(largest, len(rows))
        self.assertGreater(largest, least)

    def test_programs_that_hold_much(self):
        keeping = ("times", 2, seq(A, ("keep", "x"), ("if", B, ("keep", "y"), ("give", "x"))))
        for body in (keeping, seq(FAIL_ON, ("while", C, pipe(keeping, ("give", "y")))),
                     seq(PIPES_ON, ("trap", "end", ("while", B, A)), pipe(("keep", "x"), A, ("until", A, ("exit", None)))),
                     seq(("trap", "fail", ("or", Z, ("exit", None))), ("until", A, ("sub", seq(("keep", "x"), B)))),
                     seq(A, ("keep", "x"), ("sub", seq(B, ("keep", "x"), pipe(A, B), C)), ("give", "x"))):
            for program in (main(body), main(("sub", body)), ((("f", body),), ("call", "f"))):
                expected = reference_machine(program, command_names(program)[1], 1000)
                self.assertEqual(machine(program), expected)

    def test_lists_are_new(self):
        program = main(A)
        first = machine(program)
        first.clear()
        self.assertEqual(len(machine(program)), 3)

    def test_no_programs(self):
        for value, path in NO_PROGRAMS:
            for function, arguments in ((machine, ()), (situations, ()), (after, (None,)), (check_machine, (None,))):
                assert_error(self, InvalidProgram, path, function, value, *arguments)


class After(unittest.TestCase):
    def test_example(self):
        self.assertEqual(after(read_program("a ; keep x ; b ; give x"), [4, 0]), (4, (0,)))

    def test_each_kind(self):
        program = read_program("if a then b ; keep x ; c else while status 0 do status 0 end end")
        self.assertEqual(after(program, []), (0, ()))
        rows = machine(program)
        for row, entry, indexes in (([0], rows[1], ()), ([0, 5, 0], ("end", 0), ()), ([0, 5, 6], ("end", "slot"), (2,)),
                                    ([9], ("silent",), ()), ([0, 0, 7], ("end", "slot"), (2,))):
            number, found = after(program, row)
            self.assertEqual((rows[number], found), (entry, indexes))
            self.assertEqual(after(program, tuple(row)), (number, found))

    def test_same_numbers_stay_apart(self):
        """Failures are told apart by their places in the row, also if they are equal."""
        program = read_program("a ; keep x ; b ; keep y ; c")
        for row in ([3, 3], [3, 4], [255, 0], [0, 1]):
            number, indexes = after(program, row)
            self.assertEqual(indexes, tuple(index for index, told in enumerate(row) if told))
            self.assertEqual(machine(program)[number][3], len(indexes))

    def test_samples(self):
        for program, _ in sampled(range(300), (6, 12, 25)):
            names = command_names(program)[1]
            row = []
            for told in (0, 1001, 1002, 0, 1004, 0, 1006):
                number, indexes = after(program, row)
                walked = Told(program, row)
                entry = machine(program)[number]
                if walked.outcome[0] == "asks":
                    held = walked.walker.held(names)
                    self.assertEqual((entry[0], entry[1]), ("ask", walked.asked[1]))
                else:
                    held = [walked.outcome[1]] if walked.outcome[0] == "ended" else []
                    self.assertEqual(entry[0], {"ended": "end", "silent": "silent"}[walked.outcome[0]])
                symbols = list(dict.fromkeys(value for value in held if value > 1000))
                self.assertEqual([row[index] for index in indexes], symbols)
                if walked.outcome[0] != "asks":
                    assert_error(self, InvalidRow, len(row), after, program, row + [told])
                    break
                row.append(told)

    def test_errors(self):
        for row, index in NO_ROWS:
            assert_error(self, InvalidRow, index, after, main(A), row)
        assert_error(self, InvalidRow, 1, after, main(A), [0, 0])
        assert_error(self, InvalidRow, 1, after, main(A), [5, 0, 0])
        assert_error(self, InvalidRow, 0, after, main(status(0)), [0])
        assert_error(self, InvalidRow, 3, after, main(A), [0, 0, 0, -1])
        assert_error(self, InvalidRow, 0, after, main(("while", status(0), status(0))), (1,))
        large = main(("times", 999, A))
        assert_error(self, InvalidRow, 1, after, large, [0, None])
        assert_error(self, TooLarge, 1000, after, large, [0] * 2000)
        self.assertEqual(after(program=main(A), row=[0]), (1, ()))


class CheckMachine(unittest.TestCase):
    def setUp(self):
        self.program = read_program("a ; keep x ; b || { c ; give x }")
        self.rows = machine(self.program)

    def assert_fault(self, rows, index):
        assert_error(self, InvalidMachine, index, check_machine, self.program, rows)

    def test_right(self):
        self.assertIsNone(check_machine(self.program, self.rows))
        self.assertIsNone(check_machine(program=self.program, rows=list(self.rows)))

    def test_no_list(self):
        for value in (None, tuple(self.rows), {}, "rows", 3, set(), object(), ()):
            self.assert_fault(value, -1)

    def test_entries_missing_or_too_many(self):
        for at in range(len(self.rows)):
            self.assert_fault(self.rows[:at], at)
            self.assert_fault(self.rows[:at] + [None] + self.rows[at + 1:], at)
            twice = self.rows[:at + 1] + self.rows[at:]
            self.assert_fault(twice, at + 1)
        self.assert_fault(self.rows + [("end", 0)], len(self.rows))
        self.assert_fault(self.rows + [None, None], len(self.rows))
        self.assert_fault([], 0)

    def test_one_thing_changed(self):
        """Each part of each entry, exchanged for values of other kinds."""
        for at, entry in enumerate(self.rows):
            for changed in changes(entry):
                self.assert_fault(self.rows[:at] + [changed] + self.rows[at + 1:], at)
                self.assert_fault(self.rows[:at] + [changed] + [None], at)

    def test_bools_and_lists(self):
        rows = [("ask", (-1,), "a", 0, (1, ()), (2, ("now",))), ("end", 0), ("end", "slot")]
        self.assertIsNone(check_machine(main(A), rows))
        for at, entry in ((0, ("ask", (-1,), "a", False, (1, ()), (2, ("now",)))),
                          (0, ("ask", (-1,), "a", 0, (True, ()), (2, ("now",)))),
                          (0, ("ask", [-1], "a", 0, (1, ()), (2, ("now",)))),
                          (0, ["ask", (-1,), "a", 0, (1, ()), (2, ("now",))]),
                          (0, ("ask", (-1,), "a", 0, (1, []), (2, ("now",)))),
                          (0, ("ask", (-1,), "a", 0, [1, ()], (2, ("now",)))), (1, ("end", False)), (1, ["end", 0])):
            changed = list(rows)
            changed[at] = entry
            assert_error(self, InvalidMachine, at, check_machine, main(A), changed)


def changes(value):
    """Values that differ from this one in one place."""
    found = [None, [value], (value,), {}, "other", -5, object()]
    if isinstance(value, tuple):
        found += [list(value), value + (0,), value[:-1] if value else (0,)]
        for at, part in enumerate(value):
            found += [value[:at] + (changed,) + value[at + 1:] for changed in changes(part)]
    elif isinstance(value, int):
        found += [value + 1, str(value), complex(value)] + ([bool(value)] if value in (0, 1) else [])
    else:
        found += [value.encode(), value + " ", value.upper()]
    return found


if __name__ == "__main__":
    unittest.main()
