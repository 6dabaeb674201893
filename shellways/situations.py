"""The situations that a program can come to.

While situations are looked for, statuses that are told from outside and are
failures stand as symbols, numbers below 0: in each situation the symbol of
slot 0 is -1, that of slot 1 is -2, and so on. Whatever is told next has the
symbol behind these. The trees only ask whether a status is 0, so symbols can
take the place of numbers.
"""

from shellways.states import walk_of
from shellways.walks import go_on, tell


class Situation:
    """A situation, with one walk that has come to it."""

    def __init__(self, walk, slots, outline):
        self.walk = walk
        # The number of slots.
        self.slots = slots
        self.outline = outline
        # The two steps (number, moves), behind 0 and behind a failure; None if
        # nothing looked for them, or if it does not ask.
        self.steps = None
        # The situation and the status, 0 or 1, from which it was found; None at the start.
        self.before = None


class Situations:
    """The situations that a walk can come to, as far as they were found, the first one first."""

    def __init__(self, walk, noting):
        self.found = []
        self.numbers = {}
        self.noting = noting
        # What was noted on a walk, and the step on which it came first: the
        # number of a situation and a status, or None before the first status.
        self.firsts = {}
        walk.notes = {} if noting else None
        go_on(walk)
        self.keep_notes(walk, None)
        self.number_of(walk)

    def number_of(self, walk):
        """Returns the number of the situation of a walk, and the symbols that stand in its slots."""
        outline = outline_of(walk)
        places, key = key_of(outline, held_statuses(walk))
        if key not in self.numbers:
            self.numbers[key] = len(self.found)
            rename(walk, places)
            self.found.append(Situation(walk, len(places), outline))
        return self.numbers[key], list(places)

    def number_with(self, number, place, name, value):
        """Returns the same for a situation in which a variable of an open shell has another value."""
        situation = self.found[number]
        names = list(situation.walk.shells[place].variables)
        held = held_statuses(situation.walk)
        held[place * len(names) + names.index(name)] = value
        places, key = key_of(situation.outline, held)
        if key in self.numbers:
            return self.numbers[key], list(places)
        walk = situation.walk.copied()
        shell = walk.shells[place]
        shell.variables[name] = value
        return self.number_of(walk)

    def steps_of(self, number):
        """Returns the steps of a situation that asks."""
        situation = self.found[number]
        if situation.steps is None:
            situation.steps = (self.step(number, 0), self.step(number, 1))
        return situation.steps

    def step(self, number, failed):
        situation = self.found[number]
        now = situation.slots
        walk = situation.walk.copied()
        walk.notes = {} if self.noting else None
        tell(walk, -1 - now if failed else 0)
        self.keep_notes(walk, (number, failed))
        many = len(self.found)
        after, symbols = self.number_of(walk)
        if after == many:
            reached = self.found[after]
            reached.before = (number, failed)
        return after, tuple(["now" if symbol == -1 - now else -1 - symbol for symbol in symbols])

    def keep_notes(self, walk, step):
        if walk.notes is not None:
            for key in walk.notes:
                if key not in self.firsts:
                    self.firsts[key] = step


def situations_of(plan, noting):
    """Returns the situations of a program from its start on."""
    return Situations(walk_of(plan), noting)


def held_statuses(walk):
    """Returns the held statuses of a walk in order; behind its end, the end status."""
    if walk.asking is None:
        return [] if walk.silent else [walk.status]
    held = []
    for shell in walk.shells:
        # The variables stand there in ascending order.
        held.extend(list(shell.variables.values()))
    for shell in walk.shells:
        for frame in shell.frames:
            add_held(held, shell, frame)
    return held


def add_held(held, shell, frame):
    """Adds what an open tree holds."""
    match frame.node.word:
        case "while" | "until":
            if frame.place == 0:
                held.append(frame.held)
        case "pipe":
            held.append(frame.started)
            held.append(frame.held)
        case "trap":
            held.append(shell.trap_started)
        case _:
            pass


def key_of(outline, held):
    """Returns the symbols of the slots, with their new names, and the key of a situation."""
    places = {}
    for status in held:
        if status < 0 and status not in places:
            places[status] = -1 - len(places)
    return places, (outline, tuple([places.get(status, status) for status in held]))


def rename(walk, places):
    """Gives the held symbols of a walk the numbers of their slots."""
    if walk.status is not None:
        walk.status = places.get(walk.status, walk.status)
    for shell in walk.shells:
        shell.variables = {name: places.get(value, value) for name, value in shell.variables.items()}
        shell.trap_started = places.get(shell.trap_started, shell.trap_started)
        for frame in shell.frames:
            frame.held = places.get(frame.held, frame.held)
            frame.started = places.get(frame.started, frame.started)


def outline_of(walk):
    """Returns all that tells the situation of a walk apart from others, held statuses aside."""
    if walk.silent:
        return ("silent",)
    if walk.asking is None:
        return ("end",)
    return tuple([outline_of_shell(shell) for shell in walk.shells])


def outline_of_shell(shell):
    """Returns what a shell adds to a situation.

    From main on, the part that each open tree carries out tells the next open
    tree. Only the bodies of traps can be those of several trees.
    """
    marks = []
    for frame in shell.frames:
        if frame.node.word == "trap":
            marks.append(frame.node.path)
        else:
            # A times has one part, and nothing else has rounds.
            marks.append(frame.place + frame.rounds)
    traps = [path_of(shell.traps["end"]), path_of(shell.traps["fail"])]
    return (*marks, "in", *traps, shell.options["fail"], shell.options["pipes"], shell.end_begun)


def path_of(node):
    return None if node is None else node.path


def row_behind(every, step):
    """Returns the row of 0 and 1 that leads to a situation and takes this step from there."""
    row = []
    while step is not None:
        number, failed = step
        row.append(failed)
        step = every.found[number].before
    row.reverse()
    return row
