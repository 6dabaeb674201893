"""[1.3] read_program: which texts are read, and where the others are at fault."""

import random
import unittest

from shellways.errors import InvalidProgram, InvalidText, ShellError
from shellways.texts import program_text, read_program
from tests.grammar import SIGNS, first_fault
from tests.samples import Sampler
from tests.trees import A, B, C, RESERVED, main, nested, pipe, seq, status


class Reading(unittest.TestCase):
    def assert_read(self, text, *parts):
        self.assertEqual(read_program(text), main(*parts))

    def assert_fault(self, text, place):
        with self.assertRaises(InvalidText) as caught:
            read_program(text)
        self.assertEqual(caught.exception.place, place, text[:200] if isinstance(text, str) else text)
        self.assertIs(type(caught.exception.place), int)

    def assert_no_program(self, text, path):
        with self.assertRaises(InvalidProgram) as caught:
            read_program(text)
        self.assertEqual(caught.exception.path, path, text[:200])


class Texts(Reading):
    def test_examples(self):
        self.assert_read("a && b || c ; ( d | e )", ("or", ("and", A, B), C), ("sub", pipe(("run", "d"), ("run", "e"))))
        self.assert_fault("if a then b ; end", 5)

    def test_binding(self):
        self.assert_read("! a | b", pipe(("not", A), B))
        self.assert_read("a | b && c", ("and", pipe(A, B), C))
        self.assert_read("a && b ; c", ("and", A, B), C)
        self.assert_read("a || b && c", ("and", ("or", A, B), C))
        self.assert_read("a && b || c", ("or", ("and", A, B), C))
        self.assert_read("a && b && c", ("and", ("and", A, B), C))
        self.assert_read("! a && ! ! b || c | ! d",
                         ("or", ("and", ("not", A), ("not", ("not", B))), pipe(C, ("not", ("run", "d")))))

    def test_braces(self):
        for text in ("{ a }", "{ { a } }", "a"):
            self.assert_read(text, A)
            self.assertEqual(read_program("def f { " + text + " } b"), ((("f", A),), B))
        self.assert_read("{ a ; b } ; c", seq(A, B), C)
        self.assert_read("{ a } ; { b }", A, B)
        self.assert_read("{ a ; b }", A, B)
        self.assert_read("{ a && b } && c", ("and", ("and", A, B), C))
        self.assert_read("a && { b && c }", ("and", A, ("and", B, C)))
        self.assert_read("{ a | b } | c", pipe(pipe(A, B), C))
        self.assert_read("! { a | b }", ("not", pipe(A, B)))
        self.assert_read("! { ! { a } }", ("not", ("not", A)))
        self.assert_read("( { a ; b } )", ("sub", seq(A, B)))
        self.assert_read("trap end { { a } }", ("trap", "end", A))
        self.assert_read("if { a } then { b } else { c } end", ("if", A, B, C))
        self.assert_read("while { a } do { b } end", ("while", A, B))
        self.assert_read("{ status 3 } | { exit }", pipe(status(3), ("exit", None)))

    def test_braces_around_any_part(self):
        chance = random.Random(3)
        for seed in range(600):
            functions, tree = Sampler(seed).program((3, 6, 12, 25)[seed % 4])
            try:
                program_text((functions, tree))
            except InvalidProgram:
                continue
            for often in (1, 0.5, 0.05):
                texts = [f"def {name} {{ {braced(body, chance, often)} }}" for name, body in functions]
                text = " ".join(texts + [braced(tree, chance, often)])
                self.assertEqual(read_program(text), (functions, tree), text)

    def test_blanks(self):
        for text in ("a;b", "a ;b", "a&&b", "(a)", "!a", "{a}", "a\t;\tb", "a\r\n", "a\u00a0b", "a\x0bb", "a\x0c"):
            self.assert_fault(text, [place for place, word in enumerate(text.replace("\n", " ").split(" "))
                                     if word not in ("a", ";", "b")][0])
        for text in ("a ; b", " a ; b", "a ; b ", "a\n;\nb", "\n\na   ;\n \nb\n"):
            self.assert_read(text, A, B)

    def test_numbers(self):
        for number in (0, 1, 9, 10, 99, 100, 254, 255):
            for word in ("status", "exit"):
                self.assert_read(f"{word} {number}", (word, number))
            self.assert_read(f"put x {number}", ("put", "x", number))
            self.assertEqual(read_program(f"def f {{ return {number} }} a"), ((("f", ("return", number)),), A))
        for number in (0, 1, 999, 1000):
            self.assert_read(f"times {number} do a end", ("times", number, A))
        for word in ("00", "01", "0000", "007", "12345", "10000", "-1", "+1", "1_0", "1.0", "\u0663", "\u00b2", "1a"):
            self.assert_fault("status " + word, 1)
            self.assert_fault("a ; a ; " + word, 4)

    def test_words_that_are_names(self):
        for name in ("run", "seq", "and", "or", "not", "sub", "pipe", "fails", "a" * 12):
            self.assert_read(name, ("run", name))
        for word in ("a" * 13, "A", "aB", "a1", "a_b", "\u00e9", "a-b", "$x", "&", "|||", "&&&", "!!", "{}", ";;", "[", "<"):
            self.assert_fault(word, 0)
            self.assert_fault("a ; { b ; " + word, 5)

    def test_reserved_words_are_no_names(self):
        self.assertEqual(len(RESERVED), 25)
        for word in RESERVED:
            for text in ("give {}", "keep {}", "zero {}", "put {} 3", "call {}", "def {} {{ a }} b"):
                self.assert_fault(text.format(word), 1)

    def test_keyword_and_kinds(self):
        program = read_program(text="def f { a } call f")
        self.assertEqual(program, ((("f", A),), ("call", "f")))
        self.assertEqual([type(part) for part in (program, program[0], program[0][0], program[1])], [tuple] * 4)


def braced(tree, chance, often):
    """The text of a tree with braces around all parts that need them, and often around others."""
    word = tree[0]
    parts = tree[1] if word in ("seq", "pipe") else tree[1:]
    texts = [braced(part, chance, often) for part in parts if isinstance(part, tuple)]
    joined = ["{ " + text + " }" for text in texts]
    if word in ("seq", "pipe"):
        text = {"seq": " ; ", "pipe": " | "}[word].join(joined)
    elif word in ("and", "or"):
        text = {"and": " && ", "or": " || "}[word].join(joined)
    elif word == "not":
        text = "! " + joined[0]
    elif word == "sub":
        text = "( " + texts[0] + " )"
    elif word == "if":
        text = " ".join(["if", texts[0], "then", texts[1]] + (["else", texts[2]] if texts[2:] else []) + ["end"])
    elif word in ("while", "until"):
        text = f"{word} {texts[0]} do {texts[1]} end"
    elif word == "times":
        text = f"times {tree[1]} do {texts[0]} end"
    elif word == "trap" and texts:
        text = f"trap {tree[1]} {{ {texts[0]} }}"
    else:
        text = program_text(((("h", A),), tree))[len("def h { a } "):] if word not in ("call", "return", "break", "next") \
            else " ".join(str(entry) for entry in tree if entry is not None)
    return "{ " + text + " }" if chance.random() < often else text


class Refused(Reading):
    def test_no_strings(self):
        for value in (None, True, 3, b"a", ["a"], ("a",), {"a": 1}, {"a"}, 1j, object(), str, ShellError("a")):
            self.assert_fault(value, -1)

    def test_number_of_words(self):
        self.assert_fault(" ".join(["a"] * 20001), -1)
        self.assert_fault(" ".join(["?"] * 20001), -1)
        self.assert_fault(" ".join(["a"] * 20000), 1)
        self.assert_fault(" \n" * 30000, 0)
        self.assert_fault(" ; ".join(["a"] * 10000) + " ;", 20000)
        self.assert_no_program(" ; ".join(["a"] * 10000), ())
        self.assert_read(" ; ".join(["a"] * 2999) + " " * 50000, *[A] * 2999)
        self.assert_fault("a " * 19999 + "?", 19999)

    def test_long_chains(self):
        self.assert_no_program(" && ".join(["a"] * 10000), (-1,) + (0,) * 60)
        self.assert_no_program(" | ".join(["a"] * 10000), ())
        self.assert_no_program(" && ".join(["a"] * 61), (-1,) + (0,) * 60)
        read_program(" && ".join(["a"] * 60))

    def test_texts_that_end_too_early(self):
        for text in ("", " ", "\n", "a ;", "a &&", "a |", "!", "(", "( a", "{", "{ a", "if", "if a", "if a then",
                     "if a then b", "if a then b else", "if a then b else c", "while a", "until a do", "while a do b",
                     "times", "times 3", "times 3 do", "times 3 do a", "status", "put", "put x", "option",
                     "option fail", "trap", "trap end", "trap end {", "trap end { a", "break", "call", "def", "def f",
                     "def f {", "def f { a", "def f { a }", "give", "keep", "zero", "next"):
            self.assert_fault(text, len(text.split()))

    def test_first_unknown_word_goes_first(self):
        self.assert_fault("; ; A", 2)
        self.assert_fault(") 01 A", 1)
        self.assert_fault("if if if \t", 3)
        self.assert_fault("a b c D", 3)

    def test_words_that_cannot_stand(self):
        for text, place in (("a b", 1), ("a )", 1), ("; a", 0), ("a ; ; b", 2), ("a && || b", 2), ("! ; a", 1),
                            ("( )", 1), ("{ }", 1), ("( a }", 2), ("a def", 1), ("a ; def f { a }", 2),
                            ("def f { a } def g { b } ; a", 10), ("def f a", 2), ("def f { def g { a } a } b", 3),
                            ("status a", 1), ("give 3", 1), ("put 3 x", 1), ("put x y", 2), ("option end on", 1),
                            ("option fail then", 2), ("trap pipes off", 1), ("trap end on", 2), ("trap end a", 2),
                            ("if a do b end", 2), ("if a then b then c end", 4), ("while a then b end", 2),
                            ("times a do b end", 1), ("times 3 a end", 2), ("call 3", 1), ("return x", 1),
                            ("exit 3 4", 2), ("break", 1), ("break x", 1), ("else", 0), ("end", 0), ("3", 0),
                            ("if a then b else c else d end", 6), ("on", 0), ("fail", 0), ("a | ; b", 2)):
            self.assert_fault(text, place)

    def test_changed_texts(self):
        """A word left out, repeated, exchanged or put in, at each place."""
        texts = ["def f { return 3 } a && { b || call f } ; ! c",
                 "trap end { a ; b } ; option fail on ; if a | b then ( c ) else exit end",
                 "times 3 do while a do break 1 ; next 2 end end ; put x 7 ; keep y ; exit 3"]
        for text in texts:
            words = text.split()
            for at in range(len(words)):
                self.compare(words[:at] + words[at + 1:])
                self.compare(words[:at] + [words[at]] + words[at:])
                self.compare(words[:at])
                for word in SIGNS + RESERVED + ["a", "3"]:
                    self.compare(words[:at] + [word] + words[at + 1:])
                    self.compare(words[:at] + [word] + words[at:])

    def test_changed_samples(self):
        chance = random.Random(1)
        for seed in range(400):
            try:
                words = program_text(Sampler(seed).program((3, 6, 12)[seed % 3])).split()
            except InvalidProgram:
                continue
            for _ in range(chance.choice((1, 1, 2, 3))):
                at = chance.randrange(len(words))
                words[at:at + chance.choice((0, 1))] = chance.choices(SIGNS + RESERVED + ["a", "x", "2"], k=1)
            self.compare(words)
        for _ in range(4000):
            self.compare(chance.choices(SIGNS + RESERVED + ["a", "b", "0", "255"], k=chance.randrange(8)))

    def compare(self, words):
        place = first_fault(words)
        text = " ".join(words)
        if place is None:
            try:
                read_program(text)
            except InvalidProgram:
                pass
        else:
            self.assert_fault(text, place)


class Depths(Reading):
    def test_lists_in_parentheses(self):
        self.assert_read("( " * 59 + "a" + " )" * 59, nested(lambda tree: ("sub", tree), 59, A))
        for many in (60, 61, 100, 5000):
            self.assert_fault("( " * many + "a" + " )" * many, 60)
            self.assert_fault("( " * many + "; a", 60)
            self.assert_fault("( " * 60, 60)

    def test_lists_in_braces(self):
        self.assert_read("{ " * 59 + "a" + " }" * 59, A)
        for many in (60, 61, 100, 9000):
            self.assert_fault("{ " * many + "a" + " }" * many, 60)
        self.assertEqual(read_program("def f " + "{ " * 60 + "a" + " }" * 60 + " b"), ((("f", A),), B))
        self.assert_fault("def f " + "{ " * 61 + "a" + " }" * 61 + " b", 63)

    def test_lists_between_words(self):
        self.assert_read("if a then " * 59 + "a" + " end" * 59, nested(lambda tree: ("if", A, tree, None), 59, A))
        self.assert_fault("if a then " * 60 + "a" + " end" * 60, 178)
        self.assert_fault("if " * 60 + "a" + " then a end" * 60, 60)
        self.assert_fault("while a do " * 60 + "a" + " end" * 60, 178)
        self.assert_fault("until " * 60 + "a" + " do a end" * 60, 60)
        self.assert_fault("times 2 do " * 60 + "a" + " end" * 60, 180)
        self.assert_fault("trap end { " * 60 + "a" + " }" * 60, 180)

    def test_lists_that_are_closed_do_not_count(self):
        self.assert_read("; ".join(["( a ) "] * 200), *[("sub", A)] * 200)
        self.assert_read("{ " * 59 + "a" + " }" * 59 + " ; " + "{ " * 59 + "a" + " }" * 59, A, A)
        subs = nested(lambda tree: ("sub", tree), 59, A)
        text = "( " * 59 + "a" + " )" * 59
        self.assertEqual(read_program("def f { " + text + " } " + text), ((("f", subs),), subs))

    def test_nots(self):
        self.assert_read("! " * 59 + "a", nested(lambda tree: ("not", tree), 59, A))
        self.assert_no_program("! " * 60 + "a", (-1,) + (0,) * 60)
        for many in (61, 62, 1000, 19999):
            self.assert_fault("! " * many + "a", 61)
        self.assert_fault("! " * 61, 61)
        self.assert_fault("! " * 60, 60)
        self.assert_fault("a ; " + "! " * 61 + ";", 63)
        self.assert_no_program(("! " * 60 + "{ ") * 2 + "a" + " }" * 2, (-1,) + (0,) * 60)

    def test_nots_and_lists_together(self):
        text = ("! " * 60 + "( ") * 59 + "! " * 60 + "a" + " )" * 59
        self.assert_no_program(text, (-1,) + (0,) * 60)
        self.assert_fault(("! " * 60 + "( ") * 60 + "a" + " )" * 60, 60 * 61)


class NoPrograms(Reading):
    def test_texts_of_programs_that_are_not_valid(self):
        for text, path in (("status 256", (-1,)), ("status 9999", (-1,)), ("exit 256", (-1,)), ("put x 999", (-1,)),
                           ("times 1001 do a end", (-1,)), ("break 1", (-1,)), ("while a do break 2 end", (-1, 1)),
                           ("while a do break 0 end", (-1, 1)), ("times 2 do ( next 1 ) end", (-1, 0, 0)),
                           ("return", (-1,)), ("def f { ( return ) } a", (0, 0)), ("call f", (-1,)),
                           ("def f { call f } a", (0,)), ("def f { call g } def g { a } a", (0,)),
                           ("def f { a } def f { a } a", (1,)), ("a ; b && exit 300", (-1, 1, 1)),
                           ("times 1000 do a ; b ; c end", ()), ("def f { trap end { return 3 } } a", (0, 0))):
            self.assert_no_program(text, path)

    def test_many_functions(self):
        names = [chr(97 + number // 5) + chr(97 + number % 5) for number in range(21)]
        texts = ["def " + name + " { a }" for name in names]
        self.assertEqual(len(read_program(" ".join(texts[:20]) + " b")[0]), 20)
        self.assert_no_program(" ".join(texts) + " b", ())
        self.assert_no_program(" ".join(texts) + " call nowhere", ())

    def test_many_variables(self):
        names = ["v" + chr(97 + number // 20) + chr(97 + number % 20) for number in range(41)]
        read_program(" ; ".join("keep " + name for name in names[:40]))
        self.assert_no_program(" ; ".join("keep " + name for name in names), ())

    def test_text_goes_first(self):
        self.assert_fault("status 256 ; )", 3)
        self.assert_fault("def f { a } def f { a }", 10)


if __name__ == "__main__":
    unittest.main()
