"""The situations of a program, together with the name of the command for each slot."""

from shellways.errors import InvalidChances, TooLarge
from shellways.graphs import components
from shellways.machines import MOST_SITUATIONS
from shellways.ratios import is_part

MOST_TOGETHER = 40
GREATEST_BOTTOM = 1000000


class Named:
    """All states: tuples of the number of a situation and the names for its slots, the start first."""

    def __init__(self, every):
        self.every = every
        self.states = []
        self.numbers = {}
        # For each state the numbers of those behind 0 and behind a failure, () if it does not ask.
        self.graph = []
        self.number_of((0, ()))
        at = 0
        while at < len(self.states):
            self.graph.append(self.following(self.states[at]))
            if len(self.states) > MOST_SITUATIONS:
                raise TooLarge(MOST_SITUATIONS)
            at += 1
        self.asked = [self.command_of(number) for number, _ in self.states]
        self.outcomes = [self.outcome_of(state) for state in self.states]

    def number_of(self, state):
        if state not in self.numbers:
            self.numbers[state] = len(self.states)
            self.states.append(state)
        return self.numbers[state]

    def command_of(self, number):
        """Returns the name of the command that a situation asks for, or None."""
        asking = self.every.found[number].walk.asking
        return None if asking is None else asking.tree[1]

    def following(self, state):
        number, names = state
        asked = self.command_of(number)
        if asked is None:
            return ()
        later = []
        for after, moves in self.every.steps_of(number):
            held = tuple([asked if move == "now" else names[move] for move in moves])
            later.append(self.number_of((after, held)))
        return tuple(later)

    def outcome_of(self, state):
        """Returns the outcome of a state that does not ask, None for others."""
        number, names = state
        walk = self.every.found[number].walk
        if walk.asking is not None:
            return None
        if walk.silent:
            return ("silent",)
        return ("failed", names[0]) if names else ("ended", walk.status)


def check_together(graph):
    """Raises TooLarge if too many numbers of a graph lead to one another."""
    for members in components(graph):
        if len(members) > MOST_TOGETHER:
            raise TooLarge(MOST_TOGETHER)


def check_chances(plan, chances, is_as_described):
    """Returns None if the value is a dict with what is described for each command of the program."""
    if not isinstance(chances, dict):
        raise InvalidChances(None)
    for name in sorted(plan.check.commands):
        if name not in chances or not is_as_described(chances[name]):
            raise InvalidChances(name)


def is_chance(value):
    return is_part(value) and value[1] <= GREATEST_BOTTOM
