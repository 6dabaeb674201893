"""Programs and rows that a seed chooses, for tests: always the same ones."""

import random

from shellways.errors import InvalidProgram
from shellways.programs import check_program

LEAVES = ("run", "run", "run", "run", "status", "status", "give", "zero", "keep", "put", "option",
          "option", "trap", "break", "next", "call", "return", "exit", "exit")
CALM_LEAVES = ("run",) * 12 + LEAVES
RICH_LEAVES = ("run",) * 9 + ("keep",) * 3 + ("give",) * 2 + LEAVES[4:]
JOINS = ("seq", "seq", "seq", "and", "or", "not", "if", "if", "while", "until", "times", "sub",
         "sub", "pipe", "trap", "trap")


class Sampler:
    def __init__(self, seed):
        self.chance = random.Random(seed)
        self.leaves = LEAVES if seed % 2 else CALM_LEAVES

    def program(self, size):
        functions = []
        for name in ("f", "g", "h")[:self.chance.randrange(4)]:
            known = [entry[0] for entry in functions]
            functions.append((name, self.tree(size // 2, 0, True, known)))
        known = [entry[0] for entry in functions]
        return (tuple(functions), self.tree(size, 0, False, known))

    def row(self, length):
        return [self.chance.choice((0, 0, 0, 1, 2, 7, 300)) for _ in range(length)]

    def tree(self, size, loops, returns, known):
        if size <= 1:
            return self.leaf(loops, returns, known)
        word = self.chance.choice(JOINS)
        if word in ("seq", "pipe"):
            count = self.chance.randint(2, 4)
        elif word in ("and", "or", "while", "until"):
            count = 2
        elif word == "if":
            count = self.chance.choice((2, 3))
        else:
            count = 1
        inner = loops + 1 if word in ("while", "until", "times") else loops
        if word in ("sub", "pipe", "trap"):
            inner, returns = 0, False
        parts = [self.tree((size - 1) // count, inner, returns, known) for _ in range(count)]
        if word in ("seq", "pipe"):
            return (word, tuple(parts))
        if word == "times":
            return (word, self.chance.choice((0, 1, 2, 3)), parts[0])
        if word == "trap":
            return (word, self.chance.choice(("end", "fail")), parts[0])
        if word == "if" and count == 2:
            return (word, parts[0], parts[1], None)
        return (word, *parts)

    def leaf(self, loops, returns, known):
        word = self.chance.choice(self.leaves)
        if word in ("give", "zero", "keep"):
            return (word, self.chance.choice("xy"))
        if word == "put":
            return (word, self.chance.choice("xy"), self.chance.choice((0, 1, 9)))
        if word == "status":
            return (word, self.chance.choice((0, 0, 3, 255)))
        if word == "option":
            return (word, self.chance.choice(("fail", "fail", "pipes")), self.chance.random() < 0.8)
        if word == "trap":
            return (word, self.chance.choice(("end", "fail")), None)
        if word in ("break", "next") and loops:
            return (word, self.chance.randint(1, loops))
        if word == "call" and known:
            return (word, self.chance.choice(known))
        if word == "exit" or word == "return" and returns:
            return (word, self.chance.choice((None, 0, 5)))
        return ("run", self.chance.choice("abc"))


class RichSampler(Sampler):
    """Programs that ask and keep much."""

    def __init__(self, seed):
        super().__init__(seed)
        self.leaves = RICH_LEAVES


def sampled(seeds, sizes, sampler_of=Sampler):
    """Yields the tuples (program, sampler) of those seeds with which the program is valid."""
    for seed in seeds:
        sampler = sampler_of(seed)
        program = sampler.program(sizes[seed % len(sizes)])
        try:
            check_program(program)
        except InvalidProgram:
            # Rounds and calls may unfold to too many trees.
            continue
        yield program, sampler
