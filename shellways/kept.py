"""Which failures the end of a program tells, and which variables matter."""

from shellways.errors import InvalidName, TooLarge
from shellways.machines import all_situations, situations_of_small
from shellways.pairs import Pairs, is_alike
from shellways.plans import all_nodes, plan_of
from shellways.rows import row_to
from shellways.trees import changed_program, with_tree_at

MOST_LIVE = 60
MOST_TREES = 40
MOST_VARIABLES = 5

OF_VARIABLES = ("give", "zero", "keep", "put")

# What stands in the place of a tree that is left out.
LEFT_OUT = ("status", 0)


class Telling:
    """A situation together with what is known of the failures told so far."""

    def __init__(self, number, failures, first, last):
        self.number = number
        # How many there were; 2 stands for several.
        self.failures = failures
        # The slots of the first and the last one, None if they are held nowhere.
        self.first = first
        self.last = last

    def key(self):
        return self.number, self.failures, self.first, self.last

    def behind(self, step, failed):
        number, moves = step
        first = "now" if failed and self.failures == 0 else self.first
        last = "now" if failed else self.last
        failures = min(2, self.failures + failed)
        return Telling(number, failures, slot_of(moves, first), slot_of(moves, last))


def slot_of(moves, slot):
    """Returns the slot into which a failure moves, None if none."""
    return moves.index(slot) if slot is not None and slot in moves else None


def tellings(program):
    """Returns the words for what ends can tell, with the least rows behind which they do."""
    every = all_situations(plan_of(program), False)
    found = {}
    for telling, row in tellings_of_ends(every):
        word = word_of_end(every.found[telling.number], telling)
        if word not in found:
            found[word] = row
    return found


def tellings_of_ends(every):
    """Returns the tuples (telling, row) of all ends, those with lesser rows first."""
    start = Telling(0, 0, None, None)
    befores = {start.key(): None}
    coming = [start]
    ends = []
    at = 0
    while at < len(coming):
        telling = coming[at]
        situation = every.found[telling.number]
        if situation.walk.status is not None:
            ends.append((telling, row_to(befores, telling.key())))
        if situation.steps is not None:
            for status in (0, 1):
                after = telling.behind(situation.steps[status], status)
                if after.key() not in befores:
                    befores[after.key()] = (telling.key(), status)
                    coming.append(after)
        at += 1
    return ends


def word_of_end(situation, telling):
    if situation.slots == 0:
        return "number" if telling.failures == 0 else "lost"
    if telling.failures == 1:
        return "only"
    if telling.first == 0:
        return "first"
    return "last" if telling.last == 0 else "other"


def gives_back(program, which):
    """Returns the least row with which the program does not end as asked for, None if there is none."""
    plan = plan_of(program)
    if not isinstance(which, str) or which not in ("first", "last"):
        raise InvalidName(which)
    every = all_situations(plan, False)
    for telling, row in tellings_of_ends(every):
        told = telling.first if which == "first" else telling.last
        wanted = every.found[telling.number].walk.status == 0 if telling.failures == 0 else told == 0
        if not wanted:
            return row
    return None


# Variables that matter.


def live_variables(program):
    """Returns for each situation the tuples (shell, variable) that matter, None if it does not ask."""
    every = all_situations(plan_of(program), False, MOST_LIVE)
    pairs = Pairs(every, every, (), None)
    # Other values of variables may lead to situations that the program cannot come to.
    return [live_in(pairs, number) for number in range(len(every.found))]


def live_in(pairs, number):
    walk = pairs.one.found[number].walk
    if walk.asking is None:
        return None
    places = [(place, name) for place, shell in enumerate(walk.shells) for name in shell.variables]
    return [(place, name) for place, name in places if matters(pairs, number, place, name)]


def matters(pairs, number, place, name):
    """Returns whether another value of a variable can make a difference.

    If the failure that is told in no other place makes none, no failure does.
    """
    situation = pairs.one.found[number]
    values = [-1 - situation.slots]
    if situation.walk.shells[place].variables[name] != 0:
        values.append(0)
    for value in values:
        changed, symbols = pairs.one.number_with(number, place, name, value)
        places = {symbol: slot for slot, symbol in enumerate(symbols)}
        links = [(slot, places[-1 - slot]) for slot in range(situation.slots) if -1 - slot in places]
        if pairs.is_apart((number, changed, tuple(links))):
            return True
    return False


# Variables that may be left out.


def needless_sets(program):
    """Returns the paths of all trees keep and put that may be left out, each alone."""
    plan = plan_of(program)
    every = situations_of_small(plan, MOST_TREES)
    paths = paths_of_sets(plan)
    return [path for path in paths if is_alike(every, plan_of(with_tree_at(program, path, LEFT_OUT)))]


def without_sets(program):
    """Returns the program in which trees keep and put are left out, from the last one on."""
    plan = plan_of(program)
    every = situations_of_small(plan, MOST_TREES)
    for path in reversed(paths_of_sets(plan)):
        changed = with_tree_at(program, path, LEFT_OUT)
        if is_alike(every, plan_of(changed)):
            program = changed
    return program


def paths_of_sets(plan):
    return [node.path for node in all_nodes(plan) if node.word in ("keep", "put")]


def fewest_variables(program):
    """Returns a dict that merges the variables of the program into as few as possible."""
    plan = plan_of(program)
    if len(plan.variables) > MOST_VARIABLES:
        raise TooLarge(MOST_VARIABLES)
    every = situations_of_small(plan, MOST_TREES)
    for names in merged_names(plan.variables):
        merged = changed_program(program, lambda tree: with_variable(tree, names))
        if is_alike(every, plan_of(merged)):
            return names


def merged_names(variables):
    """Returns all dicts that merge variables, those with fewer values first."""
    found = [{}]
    for name in variables:
        found = [{**names, name: other} for names in found
                 for other in sorted(set(list(names.values()))) + [name]]
    return sorted(found, key=lambda merged: len(set(list(merged.values()))))


def with_variable(tree, names):
    if tree[0] not in OF_VARIABLES:
        return tree
    return (tree[0], names[tree[1]], *tree[2:])
