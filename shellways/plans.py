"""Programs that were read and found to be as described.

A plan holds the trees of a program as nodes, in reading order. Whoever asks
what a program does works on its plan, so a program is checked only once.
"""

from shellways.errors import InvalidProgram
from shellways.kinds import is_integer, is_integer_within, is_name

MOST_FUNCTIONS = 20
MOST_TREES = 3000
MOST_VARIABLES = 40
MOST_UNFOLDED = 3000
LONGEST_PATH = 60
GREATEST_NUMBER = 255
MOST_ROUNDS = 1000

# What stands behind the word of each tree.
FORMS = {
    "run": ("name",),
    "status": ("number",),
    "give": ("name",),
    "zero": ("name",),
    "keep": ("name",),
    "put": ("name", "number"),
    "option": ("option", "switch"),
    "trap": ("trap", "tree or none"),
    "seq": ("trees",),
    "and": ("tree", "tree"),
    "or": ("tree", "tree"),
    "not": ("tree",),
    "if": ("tree", "tree", "tree or none"),
    "while": ("tree", "tree"),
    "until": ("tree", "tree"),
    "times": ("rounds", "tree"),
    "break": ("loop",),
    "next": ("loop",),
    "call": ("function",),
    "return": ("returned",),
    "exit": ("number or none",),
    "sub": ("tree",),
    "pipe": ("trees",),
}

LOOPS = ("while", "until", "times")
BARRIERS = ("sub", "pipe", "trap")
OF_VARIABLES = ("give", "zero", "keep", "put")


class Node:
    """One tree of a program, at its path."""

    def __init__(self, tree, path):
        self.word = tree[0]
        self.entries = tree[1:]
        self.path = path
        self.parts = []
        # The node that a call carries out; None for other trees.
        self.body = None
        self.unfolded = 1


class Plan:
    """The nodes of a program in reading order."""

    def __init__(self):
        self.nodes = []
        self.bodies = {}
        self.main = None

    def names_of(self, words):
        """Returns the ascending list of the names in the trees with these words."""
        return sorted({node.entries[0] for node in self.nodes if node.word in words})


class Around:
    """What stands around a tree: open loops, whether return may stand there, functions."""

    def __init__(self, loops, returns, functions):
        self.loops = loops
        self.returns = returns
        self.functions = functions


def plan_of(program):
    """Returns the plan of a program; raises InvalidProgram if the value is none."""
    if not is_outline(program):
        raise InvalidProgram(())
    functions, main = program
    plan = Plan()
    for number, entry in enumerate(functions):
        if not is_entry(entry, plan.bodies):
            raise InvalidProgram((number,))
        name, body = entry
        plan.bodies[name] = add_tree(plan, body, (number,), Around(0, True, plan.bodies))
    plan.main = add_tree(plan, main, (-1,), Around(0, False, plan.bodies))
    if len(plan.names_of(OF_VARIABLES)) > MOST_VARIABLES or plan.main.unfolded > MOST_UNFOLDED:
        raise InvalidProgram(())
    return plan


def is_outline(program):
    if not isinstance(program, tuple) or len(program) != 2:
        return False
    return isinstance(program[0], tuple) and len(program[0]) <= MOST_FUNCTIONS


def is_entry(entry, bodies):
    """Returns whether the entry of a function is as described, its body aside."""
    if not isinstance(entry, tuple) or len(entry) != 2:
        return False
    return is_name(entry[0]) and entry[0] not in bodies


def add_tree(plan, tree, path, around):
    """Adds the tree and all trees inside it to the plan, and returns its node.

    The length of paths bounds how deep this function calls itself.
    """
    if len(plan.nodes) == MOST_TREES:
        raise InvalidProgram(())
    if len(path) > LONGEST_PATH or not is_tree(tree, around):
        raise InvalidProgram(path)
    node = Node(tree, path)
    plan.nodes.append(node)
    inner = around_parts(node.word, around)
    for place, part in enumerate(parts_of(tree)):
        node.parts.append(add_tree(plan, part, path + (place,), inner))
    if node.word == "call":
        node.body = plan.bodies[tree[1]]
    node.unfolded = unfolded_size(node)
    return node


def is_tree(tree, around):
    """Returns whether the value is as described, the trees inside it aside."""
    if not isinstance(tree, tuple) or not tree:
        return False
    # Other kinds of values may not be hashable.
    if not isinstance(tree[0], str) or tree[0] not in FORMS:
        return False
    forms = FORMS[tree[0]]
    if len(tree) != len(forms) + 1:
        return False
    return all([has_form(value, form, around) for value, form in zip(tree[1:], forms)])


def has_form(value, form, around):
    match form:
        case "tree" | "tree or none":
            # The trees inside a tree are looked at in their turn, at their own paths.
            return True
        case "trees":
            return isinstance(value, tuple) and len(value) >= 2
        case "name":
            return is_name(value)
        case "number":
            return is_integer_within(value, 0, GREATEST_NUMBER)
        case "number or none":
            return value is None or is_integer_within(value, 0, GREATEST_NUMBER)
        case "returned":
            return around.returns and has_form(value, "number or none", around)
        case "rounds":
            return is_integer_within(value, 0, MOST_ROUNDS)
        case "loop":
            return is_integer(value) and 1 <= value <= around.loops
        case "function":
            return is_name(value) and value in around.functions
        case "option":
            return isinstance(value, str) and value in ("fail", "pipes")
        case "trap":
            return isinstance(value, str) and value in ("end", "fail")
        case _:
            return isinstance(value, bool)


def around_parts(word, around):
    """Returns what stands around the trees directly inside a tree."""
    if word in BARRIERS:
        return Around(0, False, around.functions)
    if word in LOOPS:
        return Around(around.loops + 1, around.returns, around.functions)
    return around


def parts_of(tree):
    """Returns what stands in the places of trees directly inside the tree, in order."""
    forms = FORMS[tree[0]]
    if forms[0] == "trees":
        return tree[1]
    parts = []
    for value, form in zip(tree[1:], forms):
        if form == "tree" or (form == "tree or none" and value is not None):
            parts.append(value)
    return parts


def unfolded_size(node):
    """Returns the unfolded size of a node whose parts and body have theirs."""
    inside = sum([part.unfolded for part in node.parts])
    if node.word == "times":
        inside = inside * node.entries[0]
    if node.word == "call":
        inside = node.body.unfolded
    return 1 + inside
