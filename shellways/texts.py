"""Texts of programs: how they are written and read."""

from shellways.checks import checked
from shellways.errors import InvalidText
from shellways.kinds import RESERVED, is_name

MOST_WORDS = 20000
MOST_DIGITS = 4
MOST_LISTS = 60
MOST_NOTS = 60

# How much a tree binds; trees that are not named here bind most.
BINDINGS = {"seq": 0, "and": 1, "or": 1, "pipe": 2, "not": 3}
BINDS_MOST = 4

SIGNS = ("{", "}", ";", "|", "&&", "||", "!", "(", ")")
JOINS = {"&&": "and", "||": "or"}


def program_text(program):
    """Returns the text of a program, with braces only where they are needed."""
    checked(program)
    functions, main = program
    words = []
    for name, body in functions:
        words.extend(["def", name, "{"])
        add_tree(words, body)
        words.append("}")
    add_tree(words, main)
    return " ".join(words)


def add_part(words, tree, binding):
    """Adds a part, in braces if it binds less than this."""
    if BINDINGS.get(tree[0], BINDS_MOST) < binding:
        words.append("{")
        add_tree(words, tree)
        words.append("}")
    else:
        add_tree(words, tree)


def add_tree(words, tree):
    match tree[0]:
        case "run":
            words.append(tree[1])
        case "option":
            words.extend(["option", tree[1], "on" if tree[2] else "off"])
        case "trap":
            add_trap(words, tree)
        case "seq":
            add_joined(words, tree[1], ";", 1)
        case "pipe":
            add_joined(words, tree[1], "|", 3)
        case "and" | "or":
            add_part(words, tree[1], 1)
            words.append("&&" if tree[0] == "and" else "||")
            add_part(words, tree[2], 2)
        case "not":
            words.append("!")
            add_part(words, tree[1], 3)
        case "sub":
            add_between(words, "(", tree[1], ")")
        case "if":
            add_if(words, tree)
        case "while" | "until":
            add_between(words, tree[0], tree[1], "do")
            add_tree(words, tree[2])
            words.append("end")
        case "times":
            words.extend(["times", str(tree[1])])
            add_between(words, "do", tree[2], "end")
        case _:
            words.extend([str(entry) for entry in tree if entry is not None])


def add_joined(words, parts, sign, binding):
    add_part(words, parts[0], binding)
    for part in parts[1:]:
        words.append(sign)
        add_part(words, part, binding)


def add_between(words, before, tree, behind):
    words.append(before)
    add_tree(words, tree)
    words.append(behind)


def add_trap(words, tree):
    words.extend(["trap", tree[1]])
    if tree[2] is None:
        words.append("off")
    else:
        add_between(words, "{", tree[2], "}")


def add_if(words, tree):
    add_between(words, "if", tree[1], "then")
    add_tree(words, tree[2])
    if tree[3] is not None:
        words.append("else")
        add_tree(words, tree[3])
    words.append("end")


class Reader:
    """The words of a text, and the place of the first one that was not read."""

    def __init__(self, words):
        self.words = words
        self.place = 0
        # The number of lists that are open inside one another.
        self.lists = 0

    def ahead(self):
        """Returns the word that comes, "" behind the last one."""
        return self.words[self.place] if self.place < len(self.words) else ""

    def take(self, *wanted):
        """Reads one of the wanted words and returns it."""
        word = self.ahead()
        if word not in wanted:
            raise InvalidText(self.place)
        self.place += 1
        return word

    def take_name(self):
        word = self.ahead()
        if not is_name(word):
            raise InvalidText(self.place)
        self.place += 1
        return word

    def take_number(self):
        word = self.ahead()
        if not is_number(word):
            raise InvalidText(self.place)
        self.place += 1
        return int(word)


def read_program(text):
    """Returns the program of a text; raises InvalidText or InvalidProgram."""
    reader = Reader(words_of(text))
    functions = []
    while reader.ahead() == "def":
        reader.take("def")
        name = reader.take_name()
        reader.take("{")
        functions.append((name, read_list(reader)))
        reader.take("}")
    program = (tuple(functions), read_list(reader))
    if reader.place < len(reader.words):
        raise InvalidText(reader.place)
    checked(program)
    return program


def words_of(text):
    """Returns the words of a text, all of which may stand somewhere."""
    if not isinstance(text, str):
        raise InvalidText(-1)
    words = [word for word in text.replace("\n", " ").split(" ") if word]
    if len(words) > MOST_WORDS:
        raise InvalidText(-1)
    for place, word in enumerate(words):
        if not (word in SIGNS or word in RESERVED or is_name(word) or is_number(word)):
            raise InvalidText(place)
    return words


def is_number(word):
    """Returns whether the word is a number without needless zeros."""
    if not 1 <= len(word) <= MOST_DIGITS or not word.isascii() or not word.isdigit():
        return False
    return word == "0" or word[0] != "0"


def read_list(reader):
    """Reads parts with signs between them. The words behind a list tell where it ends."""
    reader.lists += 1
    if reader.lists > MOST_LISTS:
        raise InvalidText(reader.place)
    steps = []
    joined = None
    join = None
    piped = []
    while True:
        piped.append(read_part(reader))
        sign = reader.ahead()
        if sign != "|":
            pipe = piped[0] if len(piped) == 1 else ("pipe", tuple(piped))
            piped = []
            joined = pipe if join is None else (join, joined, pipe)
            join = JOINS.get(sign)
            if join is None:
                steps.append(joined)
                if sign != ";":
                    break
        reader.take("|", "&&", "||", ";")
    reader.lists -= 1
    return steps[0] if len(steps) == 1 else ("seq", tuple(steps))


def read_part(reader):
    """Reads one tree behind any number of signs for not."""
    nots = 0
    while reader.ahead() == "!":
        reader.take("!")
        nots += 1
        if nots > MOST_NOTS:
            raise InvalidText(reader.place)
    word = reader.ahead()
    if word in READINGS:
        reader.take(word)
        action = READINGS[word]
        tree = action(reader, word)
    else:
        tree = ("run", reader.take_name())
    for _ in range(nots):
        tree = ("not", tree)
    return tree


# The readings of trees behind their first words.


def read_with_name(reader, word):
    return (word, reader.take_name())


def read_with_number(reader, word):
    return (word, reader.take_number())


def read_put(reader, word):
    return (word, reader.take_name(), reader.take_number())


def read_option(reader, word):
    option = reader.take("fail", "pipes")
    return (word, option, reader.take("on", "off") == "on")


def read_trap(reader, word):
    kind = reader.take("end", "fail")
    if reader.take("{", "off") == "off":
        return (word, kind, None)
    body = read_list(reader)
    reader.take("}")
    return (word, kind, body)


def read_end(reader, word):
    """Reads a return or an exit."""
    return (word, reader.take_number() if is_number(reader.ahead()) else None)


def read_braces(reader, word):
    tree = read_list(reader)
    reader.take("}")
    return tree


def read_sub(reader, word):
    body = read_list(reader)
    reader.take(")")
    return ("sub", body)


def read_if(reader, word):
    condition = read_list(reader)
    reader.take("then")
    first = read_list(reader)
    if reader.take("else", "end") == "end":
        return (word, condition, first, None)
    second = read_list(reader)
    reader.take("end")
    return (word, condition, first, second)


def read_while(reader, word):
    condition = read_list(reader)
    reader.take("do")
    body = read_list(reader)
    reader.take("end")
    return (word, condition, body)


def read_times(reader, word):
    rounds = reader.take_number()
    reader.take("do")
    body = read_list(reader)
    reader.take("end")
    return (word, rounds, body)


READINGS = {
    "status": read_with_number,
    "give": read_with_name,
    "zero": read_with_name,
    "keep": read_with_name,
    "put": read_put,
    "option": read_option,
    "trap": read_trap,
    "{": read_braces,
    "(": read_sub,
    "if": read_if,
    "while": read_while,
    "until": read_while,
    "times": read_times,
    "break": read_with_number,
    "next": read_with_number,
    "call": read_with_name,
    "return": read_end,
    "exit": read_end,
}
