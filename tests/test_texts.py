"""[1.2] program_text, and that read_program reads it again."""

import copy
import random
import unittest

from shellways.errors import InvalidProgram
from shellways.programs import command_names, program_size
from shellways.shells import run
from shellways.texts import program_text, read_program
from tests.samples import Sampler
from tests.trees import A, B, C, D, FAIL_OFF, FAIL_ON, PIPES_OFF, PIPES_ON, main, nested, pipe, seq

AND, OR, NOT, PIPE, SEQ = ("and", A, B), ("or", A, B), ("not", A), pipe(A, B), seq(A, B)

# A tree and its text; each tree may stand in a function f behind a function g.
TEXTS = (
    (A, "a"), (("status", 0), "status 0"), (("status", 255), "status 255"), (("give", "x"), "give x"),
    (("zero", "x"), "zero x"), (("keep", "x"), "keep x"), (("put", "x", 2), "put x 2"),
    (FAIL_ON, "option fail on"), (FAIL_OFF, "option fail off"), (PIPES_ON, "option pipes on"),
    (PIPES_OFF, "option pipes off"), (("trap", "end", A), "trap end { a }"),
    (("trap", "fail", SEQ), "trap fail { a ; b }"), (("trap", "fail", None), "trap fail off"),
    (("trap", "end", None), "trap end off"), (SEQ, "a ; b"), (seq(A, B, C), "a ; b ; c"),
    (PIPE, "a | b"), (pipe(A, B, C), "a | b | c"), (AND, "a && b"), (OR, "a || b"), (NOT, "! a"),
    (("sub", A), "( a )"), (("sub", SEQ), "( a ; b )"), (("if", A, B, None), "if a then b end"),
    (("if", A, B, C), "if a then b else c end"), (("if", SEQ, AND, SEQ), "if a ; b then a && b else a ; b end"),
    (("while", A, B), "while a do b end"), (("until", SEQ, PIPE), "until a ; b do a | b end"),
    (("times", 0, A), "times 0 do a end"), (("times", 12, SEQ), "times 12 do a ; b end"),
    (("while", A, ("break", 1)), "while a do break 1 end"),
    (("times", 2, ("until", A, ("next", 2))), "times 2 do until a do next 2 end end"),
    (("call", "g"), "call g"), (("return", None), "return"), (("return", 7), "return 7"),
    (("exit", None), "exit"), (("exit", 0), "exit 0"), (("not", ("not", A)), "! ! a"),
)

# Where braces stand, and where none do.
BRACES = (
    (seq(SEQ, C), "{ a ; b } ; c"), (seq(C, SEQ), "c ; { a ; b }"), (("and", SEQ, C), "{ a ; b } && c"),
    (("or", C, SEQ), "c || { a ; b }"), (pipe(SEQ, C), "{ a ; b } | c"), (("not", SEQ), "! { a ; b }"),
    (seq(AND, OR), "a && b ; a || b"), (("and", AND, C), "a && b && c"), (("and", OR, C), "a || b && c"),
    (("or", AND, C), "a && b || c"), (("and", C, AND), "c && { a && b }"), (("or", C, AND), "c || { a && b }"),
    (("and", C, OR), "c && { a || b }"), (pipe(AND, C), "{ a && b } | c"), (pipe(C, OR), "c | { a || b }"),
    (("not", AND), "! { a && b }"), (("not", OR), "! { a || b }"), (seq(PIPE, C), "a | b ; c"),
    (("and", PIPE, PIPE), "a | b && a | b"), (("or", C, PIPE), "c || a | b"), (pipe(PIPE, C), "{ a | b } | c"),
    (pipe(C, PIPE), "c | { a | b }"), (("not", PIPE), "! { a | b }"), (pipe(NOT, NOT), "! a | ! a"),
    (("and", NOT, NOT), "! a && ! a"), (seq(NOT, NOT), "! a ; ! a"), (("sub", ("sub", SEQ)), "( ( a ; b ) )"),
    (("sub", NOT), "( ! a )"), (("not", ("sub", OR)), "! ( a || b )"), (pipe(("sub", SEQ), C), "( a ; b ) | c"),
    (("not", ("if", A, SEQ, None)), "! if a then a ; b end"), (("trap", "end", ("trap", "end", SEQ)), "trap end { trap end { a ; b } }"),
    (("and", ("and", ("and", A, B), C), D), "a && b && c && d"),
    (("and", A, ("and", B, ("and", C, D))), "a && { b && { c && d } }"),
    (("not", ("not", SEQ)), "! ! { a ; b }"), (seq(seq(seq(A, B), C), D), "{ { a ; b } ; c } ; d"),
)


class ProgramText(unittest.TestCase):
    def assert_text(self, program, text):
        self.assertEqual(program_text(program), text)
        self.assertEqual(read_program(text), program)

    def test_each_tree(self):
        for tree, text in TEXTS + BRACES:
            if tree[0] != "return":
                self.assert_text(((("g", A),), tree), "def g { a } " + text)
            self.assert_text(((("g", A), ("f", tree)), D), "def g { a } def f { " + text + " } d")

    def test_each_tree_within_each_list(self):
        for tree, text in TEXTS + BRACES:
            if tree[0] in ("return", "call"):
                continue
            self.assert_text(main(("sub", tree)), "( " + text + " )")
            self.assert_text(main(("trap", "end", tree)), "trap end { " + text + " }")
            self.assert_text(main(("if", tree, tree, tree)), f"if {text} then {text} else {text} end")
            self.assert_text(main(("while", tree, tree)), f"while {text} do {text} end")
            self.assert_text(main(("times", 3, tree)), f"times 3 do {text} end")

    def test_example(self):
        program = ((("f", ("return", 3)),), ("seq", (("and", ("run", "a"), ("or", ("run", "b"), ("call", "f"))), ("not", ("run", "c")))))
        self.assert_text(program, "def f { return 3 } a && { b || call f } ; ! c")

    def test_one_name_for_all(self):
        program = ((("a", seq(("run", "a"), ("keep", "a"))),), seq(("call", "a"), ("give", "a"), ("put", "a", 1)))
        self.assert_text(program, "def a { a ; keep a } call a ; give a ; put a 1")

    def test_several_functions(self):
        program = ((("f", SEQ), ("g", ("call", "f")), ("unused", NOT)), ("call", "g"))
        self.assert_text(program, "def f { a ; b } def g { call f } def unused { ! a } call g")

    def test_deepest(self):
        self.assert_text(main(nested(lambda tree: ("sub", tree), 59, A)), "( " * 59 + "a" + " )" * 59)
        self.assert_text(main(nested(lambda tree: ("not", tree), 59, A)), "! " * 59 + "a")
        self.assert_text(main(nested(lambda tree: ("and", C, tree), 59, A)), "c && { " * 58 + "c && a" + " }" * 58)
        self.assert_text(main(nested(lambda tree: ("and", tree, C), 59, A)), "a" + " && c" * 59)

    def test_largest(self):
        for leaf in (A, ("put", "x", 255), ("option", "pipes", False)):
            program = main(*[leaf] * 2999)
            self.assertEqual(read_program(program_text(program)), program)
        shape = ("times", 0, ("if", A, ("trap", "end", A), A))
        program = main(*[shape] * 499)
        self.assertEqual(read_program(program_text(program)), program)

    def test_samples(self):
        for seed in range(800):
            program = Sampler(seed).program((3, 6, 12, 25, 50)[seed % 5])
            try:
                text = program_text(program)
            except InvalidProgram:
                continue
            self.assertEqual(read_program(text), program)
            self.assertEqual(text, " ".join(text.split()))

    def test_braces_are_needed(self):
        """Without any one pair of braces, the text is none or another program's."""
        for tree, text in BRACES:
            words = text.split()
            for place, word in enumerate(words):
                if word == "{" and (place < 2 or words[place - 2] != "trap"):
                    close = closing(words, place)
                    rest = words[:place] + words[place + 1:close] + words[close + 1:]
                    self.assertNotEqual(read_program(" ".join(rest))[1], tree, text)

    def test_program_is_checked(self):
        for value, path in ((None, ()), (((), 3), (-1,)), (((3,), A), (0,)), (main(("break", 1)), (-1,)),
                            ([(), A], ()), (((), ("seq", [A, B])), (-1,)), (((), ([], "a")), (-1,)),
                            (main(A, ("run", "if")), (-1, 1)), (main(A, ("status", True)), (-1, 1))):
            with self.assertRaises(InvalidProgram) as caught:
                program_text(value)
            self.assertEqual(caught.exception.path, path)

    def test_keyword_and_no_change(self):
        program = ((("g", SEQ),), seq(("call", "g"), FAIL_ON))
        before = copy.deepcopy(program)
        self.assertEqual(program_text(program=program), "def g { a ; b } call g ; option fail on")
        self.assertEqual(program, before)


def closing(words, place):
    deep = 0
    for at in range(place, len(words)):
        deep += (words[at] == "{") - (words[at] == "}")
        if deep == 0:
            return at
    return None


class Rewritten(unittest.TestCase):
    """Texts that are changed so that what the program does is known."""

    def setUp(self):
        self.programs = []
        for seed in range(300):
            sampler = Sampler(seed)
            program = sampler.program((6, 12, 25)[seed % 3])
            try:
                self.programs.append((program, program_text(program), sampler.row(6)))
            except InvalidProgram:
                pass

    def test_other_names(self):
        names = {"a": "first", "b": "c", "c": "b", "x": "y", "y": "x", "f": "zzzzzzzzzzzz", "g": "a", "h": "h"}
        for program, text, row in self.programs:
            words = [names.get(word, word) for word in text.split()]
            other = read_program(" ".join(words))
            self.assertEqual(program_size(other), program_size(program))
            asked, outcome = run(program, row)
            if outcome[0] == "asks":
                outcome = ("asks", names[outcome[1]])
            self.assertEqual(run(other, row), ([names[name] for name in asked], outcome))
            for old, new in zip(command_names(program), command_names(other)):
                self.assertEqual(sorted(names[name] for name in old), new)

    def test_function_that_nothing_calls(self):
        for program, text, row in self.programs:
            other = read_program("def unused { a ; keep u ; return 3 } " + text)
            self.assertEqual(run(other, row), run(program, row))
            trees, unfolded = program_size(program)
            self.assertEqual(program_size(other), (trees + 4, unfolded))

    def test_other_blanks(self):
        chance = random.Random(5)
        for program, text, _ in self.programs:
            blanks = [chance.choice((" ", "\n", "  ", "\n\n ", " \n")) for _ in text]
            spread = "".join(blank if sign == " " else sign for sign, blank in zip(text, blanks))
            self.assertEqual(read_program("\n " + spread + " \n\n"), program)
            self.assertEqual(read_program(spread), program)

    def test_two_mains_put_together(self):
        for (one, _, _), (other, _, _) in zip(self.programs, self.programs[1:]):
            if one[0] or other[0]:
                continue
            texts = [program_text(((), tree)) for tree in (one[1], other[1])]
            for word, text in (("seq", "{{ {} }} ; {{ {} }}"), ("and", "{{ {} }} && {{ {} }}"),
                               ("or", "{{ {} }} || {{ {} }}"), ("pipe", "{{ {} }} | {{ {} }}")):
                parts = (one[1], other[1])
                tree = (word, parts) if word in ("seq", "pipe") else (word, *parts)
                self.assertEqual(read_program(text.format(*texts)), ((), tree))
                self.assertEqual(read_program(program_text(((), tree))), ((), tree))


if __name__ == "__main__":
    unittest.main()
