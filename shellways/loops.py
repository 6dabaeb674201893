"""Where trees are left to, which trees are begun, and how loops, calls and programs end."""

from shellways.errors import InvalidPath
from shellways.machines import all_situations
from shellways.plans import LOOPS, all_nodes, node_at, plan_of
from shellways.situations import row_behind

BEGUN = "begun"


def targets(program):
    """Returns the tuples (path, target) of all trees break, next, return and exit."""
    nodes = all_nodes(plan_of(program))
    words = {node.path: node.word for node in nodes}
    found = []
    for node in nodes:
        if node.word in ("break", "next"):
            found.append((node.path, loop_around(words, node.path, node.tree[1])))
        elif node.word == "return":
            found.append((node.path, node.path[:1]))
        elif node.word == "exit":
            found.append((node.path, shell_around(words, node.path)))
    return found


def loop_around(words, path, count):
    """Returns the path of the loop with this number around a tree."""
    while count > 0:
        path = path[:-1]
        if words[path] in LOOPS:
            count -= 1
    return path


def shell_around(words, path):
    """Returns the path of the tree that began the shell of an exit, None if no tree in its function did."""
    for length in range(len(path) - 1, 0, -1):
        if words[path[:length]] in ("sub", "pipe"):
            return path[:length + 1]
    return (-1,) if path[0] == -1 else None


def begun_trees(program):
    """Returns the paths of all trees that are begun behind some row."""
    plan = plan_of(program)
    firsts = all_situations(plan, True).firsts
    return [node.path for node in all_nodes(plan) if (node.path, BEGUN) in firsts]


def first_row(program, path):
    """Returns the least row behind which the tree has been begun, None if there is none."""
    plan = plan_of(program)
    if node_at(plan, path) is None:
        raise InvalidPath(path)
    every = all_situations(plan, True)
    if (path, BEGUN) not in every.firsts:
        return None
    return row_behind(every, every.firsts[(path, BEGUN)])


def ways_out(program, path):
    """Returns the ways in which a loop or call can come to its end, with their least rows."""
    plan = plan_of(program)
    node = node_at(plan, path)
    if node is None or not (node.word in LOOPS or node.word == "call"):
        raise InvalidPath(path)
    return ways_noted(plan, path)


def ends(program):
    """Returns the ways in which the first shell can begin to end, with their least rows."""
    return ways_noted(plan_of(program), ())


def ways_noted(plan, path):
    every = all_situations(plan, True)
    ways = {}
    for key, step in every.firsts.items():
        if key[0] == path and key[1] != BEGUN:
            ways[key[1]] = row_behind(every, step)
    return ways
