"""Short ways to write trees in tests."""

FAIL_ON = ("option", "fail", True)
FAIL_OFF = ("option", "fail", False)
PIPES_ON = ("option", "pipes", True)
PIPES_OFF = ("option", "pipes", False)

A, B, C, D, Z = [("run", name) for name in "abcdz"]

# All words that a tree can begin with.
WORDS = ("run", "status", "give", "zero", "keep", "put", "option", "trap", "seq", "and", "or",
         "not", "if", "while", "until", "times", "break", "next", "call", "return", "exit", "sub",
         "pipe")

RESERVED = ("def call status give zero keep put option trap on off if then else while until times "
            "do end break next return exit fail pipes").split()


def seq(*parts):
    return ("seq", parts)


def pipe(*parts):
    return ("pipe", parts)


def status(number):
    return ("status", number)


def main(*parts):
    """A program without functions; several parts are a seq."""
    return ((), parts[0] if len(parts) == 1 else seq(*parts))


def nested(wrap, depth, tree):
    """The tree inside `depth` further trees, each made by wrap."""
    for _ in range(depth):
        tree = wrap(tree)
    return tree


def trees(count):
    """A tree that stands for `count` trees, without commands; count is 1, or 3 or more."""
    return status(0) if count == 1 else seq(*[status(0)] * (count - 1))
