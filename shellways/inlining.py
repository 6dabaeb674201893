"""Programs without functions, and without the option "fail".

A new variable holds the status of a function while it is left: it is kept behind the
body and at each return, which breaks out of one round around the body, and given
behind that. The same variable holds a failure while the option is looked at, for
nothing else happens between both.
"""

from shellways.plans import CAUSES, CHECKED, LOOPS
from shellways.trees import parts_of, with_parts

# What stands in the place of a tree that is never begun.
NOTHING = ("status", 0)


class Inlining:
    """The ways in which the trees of a program are written without functions."""

    def __init__(self, result, option, checking):
        # The new variable for the status of a function.
        self.result = result
        # The variable that holds the option "fail", None if the option itself does.
        self.option = option
        # Whether checks are spelled out.
        self.checking = checking
        # What stands in the place of the calls of each function: checked, and tested.
        self.calls = {}

    def add_function(self, name, body):
        """Notes what stands in the place of the calls of a function; those that it calls are known."""
        keep = ("keep", self.result)
        for tested in (False, True):
            inside = self.inlined(body, 0, tested)
            if has_return(body):
                parts = (("times", 1, ("seq", parts_and(inside, keep))),)
            else:
                # The body stays a tree of its own: if fewer trees were begun than by
                # the call, the result would not be silent wherever the program is.
                parts = (inside, keep)
            give = self.with_check(("give", self.result), tested)
            self.calls[(name, tested)] = ("seq", (*parts, give))

    def inlined(self, tree, loops, tested):
        """Returns the tree without calls and returns, which stands inside so many loops of its function."""
        word = tree[0]
        if word == "call":
            return self.calls[(tree[1], tested)]
        if word == "return":
            return ("seq", (self.kept(tree[1]), ("break", loops + 1)))
        if word == "option":
            return self.with_option(tree)
        if word == "times" and tree[1] == 0:
            # The body may be much larger without functions than with them.
            return ("times", 0, NOTHING)
        inner = loops + 1 if word in LOOPS else loops
        parts = []
        for place, part in enumerate(parts_of(tree)):
            in_test = place == 0 and word in CAUSES
            parts.append(self.inlined(part, inner, tested or in_test))
        return self.with_check(with_parts(tree, parts), tested)

    def kept(self, number):
        return ("keep", self.result) if number is None else ("put", self.result, number)

    def with_option(self, tree):
        if self.option is None or tree[1] != "fail":
            return tree
        return ("put", self.option, 1 if tree[2] else 0)

    def with_check(self, tree, tested):
        """Returns the tree with its check spelled out behind it."""
        if not self.checking or tested or tree[0] not in CHECKED or tree == NOTHING:
            return tree
        return ("or", tree, self.check_behind(tree))

    def check_behind(self, tree):
        """Returns what is carried out behind a tree with a check that has failed."""
        is_off = ("zero", self.option)
        if tree[0] == "status":
            return ("if", is_off, tree, ("exit", tree[1]))
        if tree[0] == "zero":
            return ("if", is_off, ("status", 1), ("exit", 1))
        give = tree if tree[0] == "give" else ("give", self.result)
        check = ("if", is_off, give, ("seq", (give, ("exit", None))))
        return check if tree[0] == "give" else ("seq", (("keep", self.result), check))


def parts_and(tree, last):
    """Returns trees to be carried out one after another: the tree and a last one."""
    parts = tree[1] if tree[0] == "seq" else (tree,)
    return (*parts, last)


def has_return(tree):
    """Returns whether a return stands in a tree."""
    coming = [tree]
    while coming:
        tree = coming.pop()
        if tree[0] == "return":
            return True
        coming.extend(parts_of(tree))
    return False
