"""Chances found with fractions and plain elimination, for tests of the chances of the program."""

from fractions import Fraction

from shellways.machines import machine


def solve(rows, column):
    """The solution of a system of equations with one."""
    rows = [list(row) + [value] for row, value in zip(rows, column)]
    size = len(rows)
    for at in range(size):
        pivot = next(k for k in range(at, size) if rows[k][at] != 0)
        rows[at], rows[pivot] = rows[pivot], rows[at]
        first = rows[at][at]
        rows[at] = [value / first for value in rows[at]]
        for k in range(size):
            if k != at and rows[k][at] != 0:
                factor = rows[k][at]
                rows[k] = [value - factor * other for value, other in zip(rows[k], rows[at])]
    return [row[-1] for row in rows]


def hits(nexts, failing, goals):
    """The chances to come to one of the goals, if each situation fails with its chance."""
    size = len(nexts)
    edges = [[(nexts[k][0], 1 - failing[k]), (nexts[k][1], failing[k])] if nexts[k] else [] for k in range(size)]
    edges = [[(other, chance) for other, chance in row if chance > 0] for row in edges]
    can = set(goals)
    for _ in range(size):
        can |= {k for k in range(size) if any(other in can for other, _ in edges[k])}
    live = sorted(can - set(goals))
    rows, column = [], []
    for k in live:
        row = [Fraction(int(k == other)) for other in live]
        value = Fraction(0)
        for other, chance in edges[k]:
            if other in goals:
                value += chance
            elif other in can:
                row[live.index(other)] -= chance
        rows.append(row)
        column.append(value)
    found = dict(zip(live, solve(rows, column)))
    return [Fraction(1) if k in goals else found.get(k, Fraction(0)) for k in range(size)]


class NamedMachine:
    """The situations together with the names of the commands for their slots."""

    def __init__(self, program):
        self.entries = machine(program)
        self.states = [(0, ())]
        self.nexts = []
        for state in self.states:
            number, names = state
            entry = self.entries[number]
            both = ()
            if entry[0] == "ask":
                for after, moves in entry[4:6]:
                    later = (after, tuple(entry[2] if move == "now" else names[move] for move in moves))
                    if later not in self.states:
                        self.states.append(later)
                    both += (self.states.index(later),)
            self.nexts.append(both)
        self.asked = [self.entries[number][2] if self.nexts[k] else None for k, (number, _) in enumerate(self.states)]

    def outcome(self, k):
        number, names = self.states[k]
        entry = self.entries[number]
        if entry[0] == "ask":
            return None
        if entry[0] == "silent":
            return ("silent",)
        return ("failed", names[0]) if entry[1] == "slot" else ("ended", entry[1])

    def failing(self, chances):
        return [None if name is None else Fraction(*chances[name]) for name in self.asked]

    def outcomes(self, chances):
        """All outcomes that have a chance, with their chances."""
        failing = self.failing(chances)
        found = {}
        for outcome in {self.outcome(k) for k in range(len(self.states))} - {None}:
            goals = {k for k in range(len(self.states)) if self.outcome(k) == outcome}
            found[outcome] = hits(self.nexts, failing, goals)[0]
        found[("endless",)] = 1 - sum(found.values())
        return {outcome: pair(chance) for outcome, chance in found.items() if chance}

    def means(self, chances):
        """How often each command is asked; the program must end or be silent for sure."""
        failing = self.failing(chances)
        reach = {0}
        for _ in self.states:
            for k in list(reach):
                if self.nexts[k]:
                    reach |= {other for other, chance in zip(self.nexts[k], (1 - failing[k], failing[k])) if chance > 0}
        live = sorted(k for k in reach if self.nexts[k])
        rows = [[Fraction(int(k == other)) for other in live] for k in live]
        for k in live:
            for other, chance in zip(self.nexts[k], (1 - failing[k], failing[k])):
                if other in live:
                    rows[live.index(other)][live.index(k)] -= chance
        often = solve(rows, [Fraction(int(k == 0)) for k in live])
        found = {}
        for k, value in zip(live, often):
            found[self.asked[k]] = found.get(self.asked[k], 0) + value
        return found

    def failed(self, chances, name, outcome):
        """The chance that the command failed at least once, given the outcome: states with a mark for that."""
        size = len(self.states)
        nexts, failing = [], self.failing(chances) * 2
        for mark in (0, 1):
            for k in range(size):
                later = self.nexts[k]
                failed = 1 if mark or self.asked[k] == name else 0
                nexts.append((later[0] + mark * size, later[1] + failed * size) if later else ())
        ends = [k for k in range(size) if self.outcome(k) == outcome]
        marked = hits(nexts, failing, {k + size for k in ends})[0]
        return marked / (marked + hits(nexts, failing, set(ends))[0])


def pair(value):
    value = Fraction(value)
    return value.numerator, value.denominator
