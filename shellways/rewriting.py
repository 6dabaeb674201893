"""Programs that do the same with fewer kinds of trees, or with fewer trees."""

from shellways.checks import checked
from shellways.errors import InvalidProgram, Mismatch
from shellways.flattening import Flattening
from shellways.inlining import Inlining
from shellways.kinds import new_names
from shellways.machines import all_situations, situations_of_small
from shellways.pairs import is_alike
from shellways.plans import CHECKED, Plan, all_nodes, plan_of
from shellways.trees import parts_of, with_tree_at

MOST_FLAT = 60
MOST_CUT = 30
MOST_GUARDED = 40

# What may stand in the place of each tree with others inside.
PLAIN = ("status", 0)


def without_functions(program):
    """Returns an alike program without functions, calls and returns."""
    plan = plan_without_fail_traps(program)
    names = new_names(plan.check.variables, 1)
    return inlined_program(program, Inlining(names[0], None, False))


def without_fail(program):
    """Returns an alike program without functions, calls and returns, and without the option "fail"."""
    plan = plan_without_fail_traps(program)
    names = new_names(plan.check.variables, 2)
    can_be_on = any([node.tree == ("option", "fail", True) for node in all_nodes(plan)])
    return inlined_program(program, Inlining(names[0], names[1], can_be_on))


def plan_without_fail_traps(program):
    plan = plan_of(program)
    for node in all_nodes(plan):
        if node.word == "trap" and node.tree[1] == "fail" and node.tree[2] is not None:
            raise Mismatch("program")
    return plan


def inlined_program(program, inlining):
    functions, main = program
    for name, body in functions:
        inlining.add_function(name, body)
    return (), inlining.inlined(main, 0, False)


def flat(program):
    """Returns an alike program that is one loop around all its runs."""
    return (), Flattening(all_situations(plan_of(program), False, MOST_FLAT)).looped()


# Cuts.


def first_cut(program):
    """Returns the first cut as a tuple (path, new tree), None if there is none."""
    return cut_of(program, situations_of_small(plan_of(program), MOST_CUT))


def leaned(program):
    """Returns the program behind first cuts, one after the other, as long as there is one."""
    every = situations_of_small(plan_of(program), MOST_CUT)
    cut = cut_of(program, every)
    while cut is not None:
        path, tree = cut
        program = with_tree_at(program, path, tree)
        cut = cut_of(program, every)
    return program


def cut_of(program, every):
    """Returns the first cut of a program that is alike to the one with these situations."""
    for node in all_nodes(plan_of(program)):
        for tree in lesser_trees(node.tree):
            if is_alike_program(every, with_tree_at(program, node.path, tree)):
                return node.path, tree
    return None


def lesser_trees(tree):
    """Returns the trees that a cut may put into the place of this one, in order."""
    parts = parts_of(tree)
    if not parts:
        return []
    lesser = [PLAIN, *parts]
    if tree[0] == "seq" and len(parts) > 2:
        for place in range(len(parts)):
            lesser.append(("seq", parts[:place] + parts[place + 1:]))
    return lesser


def is_alike_program(every, value):
    """Returns whether the value is a program, and alike to the one with these situations."""
    try:
        checked(value)
    except InvalidProgram:
        return False
    return is_alike(every, plan_of(value))


def guarded(program):
    """Returns the paths of all trees with a check for which it makes a difference that they may be checked."""
    plan = plan_of(program)
    every = situations_of_small(plan, MOST_GUARDED)
    found = []
    for node in all_nodes(plan):
        if node.word in CHECKED:
            changed = with_tree_at(program, node.path, ("and", node.tree, PLAIN))
            # It may be larger than a program may be, but it is made of the same names.
            if not is_alike(every, Plan(changed, plan.check)):
                found.append(node.path)
    return found
