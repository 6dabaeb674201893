"""Programs that were checked, as nodes: trees at their paths.

A node comes to be when it is first looked at, so whoever needs only a few
trees of a program does not wait for all of them.
"""

from shellways.checks import checked
from shellways.kinds import is_integer
from shellways.trees import parts_of

LOOPS = ("while", "until", "times")

# The trees whose parts are each in a new shell.
STARTERS = ("sub", "pipe")

# The trees behind which there is a check.
CHECKED = ("run", "status", "give", "zero", "call", "sub", "pipe")

# The trees whose first part is tested.
CAUSES = ("and", "or", "not", "if", "while", "until", "trap")


class Node:
    """One tree of a program, at its path."""

    def __init__(self, tree, path):
        self.tree = tree
        self.word = tree[0]
        self.path = path
        self.parts = parts_of(tree)
        # The nodes of the parts, None for those that nothing looked at.
        self.nodes = [None] * len(self.parts)

    def part(self, place):
        """Returns the node of the part at this place."""
        node = self.nodes[place]
        if node is None:
            node = Node(self.parts[place], self.path + (place,))
            self.nodes[place] = node
        return node


class Plan:
    """A checked program."""

    def __init__(self, program, check):
        functions, main = program
        self.check = check
        self.bodies = {}
        for entry in functions:
            self.bodies[entry[0]] = Node(entry[1], (len(self.bodies),))
        self.main = Node(main, (-1,))
        # All variables of the program in ascending order.
        self.variables = sorted(check.variables)


def plan_of(program):
    """Returns the plan of a program; raises InvalidProgram if the value is none."""
    return Plan(program, checked(program))


def all_nodes(plan):
    """Returns the nodes of all trees of the program in reading order."""
    nodes = []
    for body in plan.bodies.values():
        nodes.extend(nodes_within(body))
    nodes.extend(nodes_within(plan.main))
    return nodes


def nodes_within(node, closed=()):
    """Returns the node and those of all trees inside it, in reading order.

    Trees inside those with one of the closed words are left out.
    """
    nodes = []
    coming = [node]
    while coming:
        node = coming.pop()
        nodes.append(node)
        if node.word not in closed:
            coming.extend([node.part(place) for place in reversed(range(len(node.parts)))])
    return nodes


def nodes_of_shell(node):
    """Returns the node and those of the trees inside it that are in the same shell."""
    return nodes_within(node, STARTERS)


def node_at(plan, path):
    """Returns the node at the path, None if the value is not the path of a tree."""
    if not isinstance(path, tuple) or not all([is_integer(place) for place in path]):
        return None
    roots = {(-1,): plan.main}
    for body in plan.bodies.values():
        roots[body.path] = body
    node = roots.get(path[:1])
    for place in path[1:]:
        if node is None or not 0 <= place < len(node.parts):
            return None
        node = node.part(place)
    return node
