"""Traps: when they begin first, and programs in which they are spelled out."""

from shellways.checks import checked
from shellways.errors import InvalidProgram, Mismatch, TooLarge
from shellways.kinds import new_names
from shellways.machines import all_situations
from shellways.plans import CAUSES, CHECKED, all_nodes, nodes_of_shell, nodes_within, plan_of
from shellways.situations import row_behind
from shellways.trees import parts_of, with_parts

MOST_TREES = 3000

# The trees whose parts are in another shell, or in the body of a trap.
BARRIERS = ("sub", "pipe", "trap")

# What the body of a trap may not hold if it is to stand behind a subshell.
OF_SHELL = ("keep", "give", "zero", "put", "pipe", "call")


def trap_paths(program):
    """Returns the tuples (path, kind) of all trap trees that have a body."""
    return [(node.path, node.tree[1]) for node in traps_of(plan_of(program))]


def traps_of(plan):
    return [node for node in all_nodes(plan) if node.word == "trap" and node.tree[2] is not None]


def first_rows(program):
    """Returns for each trap the least row behind which its body begins, None if it never does."""
    plan = plan_of(program)
    every = all_situations(plan, True)
    rows = []
    for node in traps_of(plan):
        key = (node.path + (0,), "begun")
        rows.append(row_behind(every, every.firsts[key]) if key in every.firsts else None)
    return rows


# Programs without a trap. The new variable holds the status with which the body of the trap starts.


def spelled_fail(program):
    """Returns an alike program without the fail trap with which main begins."""
    plan = plan_of(program)
    body = trap_body(plan, "fail")
    for node in all_nodes(plan):
        if node.tree == ("option", "fail", True) or (node.path[0] != -1 and node.tree == ("exit", None)):
            raise Mismatch("program")
    name = new_names(plan.check.variables, 1)[0]
    behind = (("keep", name), ("or", ("zero", name), tested_body(body, name)), ("give", name))
    functions, main = program
    parts = [spelled_out(part, behind) for part in main[1][1:]]
    return small_enough((functions, ("seq", (("status", 0), *parts))))


def spelled_end(program):
    """Returns an alike program without the end trap with which main begins.

    All but the body is put into a new shell, of which only the end status comes
    back. The body cannot tell the difference: it has no variables, and as it is
    tested, options and traps do not matter.
    """
    plan = plan_of(program)
    body = trap_body(plan, "end")
    inside = plan.main.part(0).part(0)
    if any([node.word in OF_SHELL for node in nodes_within(inside)]):
        raise Mismatch("program")
    if any([node.word == "trap" for node in nodes_of_shell(inside)]):
        raise Mismatch("program")
    name = new_names(plan.check.variables, 1)[0]
    functions, main = program
    rest = ("sub", ("seq", (("status", 0), *main[1][1:])))
    return small_enough((functions, ("seq", (rest, ("keep", name), tested_body(body, name), ("give", name)))))


def trap_body(plan, kind):
    """Returns the body of the trap with which main begins, if it is the only such trap."""
    main = plan.main
    first = main.part(0).tree if main.word == "seq" else ("none",)
    if first[0] != "trap" or first[1] != kind or first[2] is None:
        raise Mismatch("program")
    traps = 0
    for root in list(plan.bodies.values()) + [main]:
        for node in nodes_of_shell(root):
            if node.word == "trap" and node.tree[1] == kind:
                traps += 1
    if traps > 1:
        raise Mismatch("program")
    return first[2]


def tested_body(body, name):
    """Returns a tree that carries out the body of a trap, tested, behind the status in the variable."""
    return ("not", ("seq", (("give", name), with_exits(body, name))))


def with_exits(tree, name):
    """Returns the tree in which each exit of its shell without a status has that in the variable."""
    if tree == ("exit", None):
        return ("seq", (("give", name), tree))
    if tree[0] in BARRIERS:
        return tree
    return with_parts(tree, [with_exits(part, name) for part in parts_of(tree)])


def spelled_out(tree, behind):
    """Returns the tree with these trees behind each of its trees that is checked in this shell."""
    if tree[0] in CHECKED:
        return ("seq", (tree, *behind))
    parts = list(parts_of(tree))
    for place, part in enumerate(parts_of(tree)):
        if place > 0 or tree[0] not in CAUSES:
            parts[place] = spelled_out(part, behind)
    return with_parts(tree, parts)


def small_enough(program):
    """Returns the program if it is one: it may have become too large."""
    try:
        checked(program)
    except InvalidProgram:
        raise TooLarge(MOST_TREES) from None
    return program
