"""Trees that start new shells, and those of them that are not needed."""

from shellways.plans import STARTERS, all_nodes, nodes_of_shell, plan_of
from shellways.trees import with_parts

# A sub around one of these does just what the tree itself does.
PLAIN = ("run", "status", "give", "zero")

# What is noted of a shell in which an exit may be carried out.
EXIT = ("exit", "")


class Facts:
    """What tells which subs are needless."""

    def __init__(self, plan):
        self.nodes = all_nodes(plan)
        self.words = {node.path: node.word for node in self.nodes}
        # What happens in each function, in the shell of its call.
        self.known = {}
        for name, body in plan.bodies.items():
            self.known[name] = happenings_in(body, self.known)
        # Whether no check can end a shell or begin a trap.
        self.quiet = not any([sets_fail(node) for node in self.nodes])

    def starts_shell(self, node):
        return self.words.get(node.path[:-1]) in STARTERS


def new_shells(program):
    """Returns the tuples (path, sets) of all trees that start a new shell."""
    facts = Facts(plan_of(program))
    found = []
    for node in facts.nodes:
        if facts.starts_shell(node):
            happenings = happenings_in(node, facts.known)
            found.append((node.path, sorted([key for key in happenings if key != EXIT])))
    return found


def happenings_in(node, known):
    """Returns what is set, and whether exits stand, in the tree, new shells within it aside.

    The keys are tuples (word, name). `known` tells the same of all functions that may be called.
    """
    found = {}
    for inner in nodes_of_shell(node):
        word = inner.word
        if word in ("option", "trap"):
            found[(word, inner.tree[1])] = True
        elif word in ("keep", "put"):
            found[("variable", inner.tree[1])] = True
        elif word == "exit":
            found[EXIT] = True
        elif word == "call":
            for key in known[inner.tree[1]]:
                found[key] = True
    return found


def sets_fail(node):
    """Returns whether the tree sets the option "fail" on, or a "fail" trap to a body."""
    if node.word == "option":
        return node.tree[1] == "fail" and node.tree[2]
    return node.word == "trap" and node.tree[1] == "fail" and node.tree[2] is not None


def needless(program):
    """Returns the paths of all needless subs."""
    facts = Facts(plan_of(program))
    found = []
    for node in facts.nodes:
        if node.word == "sub":
            alone = node.path == (-1,) or facts.starts_shell(node)
            if alone or is_idle(node.part(0), facts):
                found.append(node.path)
    return found


def is_idle(body, facts):
    """Returns whether a sub with this body does just what the body does."""
    return body.word in PLAIN or (facts.quiet and not happenings_in(body, facts.known))


def without_needless(program):
    """Returns the program without needless subs, and without pipes that are parts of pipes."""
    plan = plan_of(program)
    facts = Facts(plan)
    functions = [(name, leaner(body, False, facts)) for name, body in plan.bodies.items()]
    return tuple(functions), leaner(plan.main, True, facts)


def leaner(node, alone, facts):
    """Returns the tree without needless subs; `alone` tells that a sub is needless there."""
    if node.word == "sub":
        return leaner_sub(node, alone, facts)
    in_pipe = node.word == "pipe"
    parts = []
    for place in range(len(node.parts)):
        part = leaner(node.part(place), in_pipe, facts)
        if in_pipe and part[0] == "pipe":
            parts.extend(part[1])
        else:
            parts.append(part)
    return with_parts(node.tree, parts)


def leaner_sub(node, alone, facts):
    # Of subs directly inside one another, one stays at most. Whether it does
    # depends on what happens in the innermost one: the others only hide it.
    body = node.part(0)
    while body.word == "sub":
        body = body.part(0)
    tree = leaner(body, False, facts)
    return tree if alone or is_idle(body, facts) else ("sub", tree)
