"""Readings of logs: runs of a program, line by line, with the place in the log.

A state is a tuple (place, number, slot): how many lines of the log were read, the
situation, and the slot that holds the failure with which the program is to end, None
if no failure was chosen for that. So a run that ends with a failure that was told is
read in one way only, and the other slots need not be known.
"""


class Reading:
    """The situations of a program, with a log and an outcome."""

    def __init__(self, every, log, outcome):
        self.every = every
        self.log = log
        self.ending = outcome
        # The failure that is to be the end status, None if there is none.
        self.failure = None
        if outcome is not None and outcome[0] == "ended" and outcome[1] != 0:
            self.failure = outcome[1]

    def start(self):
        return (0, 0, None)

    def is_over(self, state):
        """Returns whether all lines were read, and the outcome has come."""
        place, number, slot = state
        if place < len(self.log):
            return False
        walk = self.every.found[number].walk
        if self.ending is None:
            return True
        if self.ending[0] == "asks":
            return walk.asking is not None
        if walk.status is None or self.ending[1] is None:
            return walk.status is not None
        # The symbol of a slot is below 0.
        return slot is not None if walk.status < 0 else walk.status == self.ending[1]

    def moves(self, state):
        """Returns the tuples (state, kept, failed, chosen) behind one more line of the run."""
        place, number, slot = state
        situation = self.every.found[number]
        if situation.steps is None:
            return []
        found = []
        for failed, (after, moves) in enumerate(situation.steps):
            for chosen in (False, True):
                if chosen and (failed == 0 or slot is not None or self.failure is None):
                    continue
                source = "now" if chosen else slot
                if source is not None and source not in moves:
                    continue
                held = None if source is None else moves.index(source)
                if self.can_keep(place, situation, failed, chosen):
                    found.append(((place + 1, after, held), True, failed, chosen))
                found.append(((place, after, held), False, failed, chosen))
        return found

    def can_keep(self, place, situation, failed, chosen):
        """Returns whether the next line of the log can be this one."""
        if place == len(self.log):
            return False
        name, status = self.log[place]
        if name != situation.walk.asking.tree[1]:
            return False
        if status is None:
            return True
        return status == self.failure if chosen else (status != 0) == (failed == 1)

    def line(self, state, kept, failed, chosen):
        """Returns the line of an explanation for a move from a state."""
        place, number, _ = state
        status = 1 if failed else 0
        if kept and self.log[place][1] is not None:
            status = self.log[place][1]
        elif chosen:
            status = self.failure
        return self.every.found[number].walk.asking.tree[1], status, kept


def layers_of(reading):
    """Returns the layers of a reading, up to the first one in which it can be over; None if it never can.

    Each layer is one line of the run further. It is a dict of True from the states that
    are come to first there. As each line is either read from the log or lost, the ways
    from layer to layer are those with the fewest lost lines.
    """
    start = reading.start()
    seen = {start: True}
    layers = [{start: True}]
    while layers[-1]:
        layer = layers[-1]
        if any([reading.is_over(state) for state in layer]):
            return layers
        later = {}
        for state in layer:
            for after, _, _, _ in reading.moves(state):
                if after not in seen:
                    seen[after] = True
                    later[after] = True
        layers.append(later)
    return None


def ways_through(reading, layers):
    """Returns the number of ways from layer to layer to those states of the last one in which it is over.

    Only the numbers for one layer are kept: they may have as many digits as a run has lines.
    """
    ways = {reading.start(): 1}
    for layer in layers[1:]:
        later = {}
        for state, many in ways.items():
            for after, _, _, _ in reading.moves(state):
                if after in layer:
                    later[after] = later.get(after, 0) + many
        ways = later
    return sum([many for state, many in ways.items() if reading.is_over(state)])


def read_back(reading, layers):
    """Returns the lines of one run that comes to the last layer."""
    goals = {state: True for state in layers[-1] if reading.is_over(state)}
    goals = {list(goals)[0]: True}
    lines = []
    for layer in reversed(layers[:-1]):
        state, move = moves_to(reading, layer, goals)[0]
        _, kept, failed, chosen = move
        lines.append(reading.line(state, kept, failed, chosen))
        goals = {state: True}
    lines.reverse()
    return lines


def moves_to(reading, layer, goals):
    """Returns the tuples (state, move) of all moves from a layer to the goals."""
    return [(state, move) for state in layer for move in reading.moves(state) if move[0] in goals]


def marked_lines(reading, layers):
    """Returns for each line of the log the tuple (well, failed): whether it can have gone well, and failed."""
    marks = [[False, False] for _ in reading.log]
    goals = {state: True for state in layers[-1] if reading.is_over(state)}
    for layer in reversed(layers[:-1]):
        found = moves_to(reading, layer, goals)
        for state, (_, kept, failed, _) in found:
            if kept:
                mark = marks[state[0]]
                mark[failed] = True
        goals = {state: True for state, _ in found}
    return [(well, failed) for well, failed in marks]


def replayed(every, lines, outcome):
    """Returns whether a run has these lines, tuples that begin with a name and a status, and the outcome."""
    number = 0
    held = ()
    for name, status, _ in lines:
        situation = every.found[number]
        if situation.steps is None or situation.walk.asking.tree[1] != name:
            return False
        number, moves = situation.steps[0 if status == 0 else 1]
        held = tuple([status if move == "now" else held[move] for move in moves])
    walk = every.found[number].walk
    if outcome is None:
        return True
    if outcome[0] == "asks":
        return walk.asking is not None
    if walk.status is None:
        return False
    return outcome[1] is None or outcome[1] == (held[0] if held else walk.status)
