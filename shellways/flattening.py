"""Programs as one loop around all their runs.

Variables hold the number of the situation, bit by bit, and the failures in its slots.
In each round the bits are looked at, the command of the situation is asked for, and
the next situation is put into the variables.
"""

from shellways.kinds import new_names


class Flattening:
    """The situations of a program, with the variables that hold them."""

    def __init__(self, every):
        self.every = every
        # The numbers of the situations behind which something follows, in order: places in it are put into bits.
        self.lasting = [number for number, situation in enumerate(every.found) if situation.walk.status is None]
        self.places = {number: place for place, number in enumerate(self.lasting)}
        # For each situation the numbers of the variables for its slots.
        self.slots = [[]]
        for number in range(1, len(every.found)):
            self.slots.append(self.slots_of(every.found[number]))
        bits = max(0, len(self.lasting) - 1).bit_length()
        # One for each slot, and one for a failure that must wait for its place, or for another one to move.
        variables = 2 + max([len(held) for held in self.slots])
        names = new_names((), bits + variables)
        self.bits = names[:bits]
        self.variables = names[bits:]

    def slots_of(self, situation):
        """Returns the variables of the slots: failures stay where they were when it was found first."""
        number, failed = situation.before
        _, moves = self.every.found[number].steps[failed]
        old = self.slots[number]
        held = [None if move == "now" else old[move] for move in moves]
        free = [place for place in range(len(moves)) if place not in held]
        return [free[0] if place is None else place for place in held]

    def looped(self):
        """Returns the loop."""
        if not self.lasting:
            return ("while", ("status", 0), ("exit", self.every.found[0].walk.status))
        trees = [self.tree_of(number) for number in self.lasting]
        return ("while", ("status", 0), self.chosen(trees))

    def chosen(self, trees):
        """Returns a tree that carries out that of these trees whose place the lowest bits hold."""
        if len(trees) == 1:
            return trees[0]
        bit = (len(trees) - 1).bit_length() - 1
        half = 1 << bit
        return ("if", ("zero", self.bits[bit]), self.chosen(trees[:half]), self.chosen(trees[half:]))

    def tree_of(self, number):
        """Returns what is carried out in a situation."""
        situation = self.every.found[number]
        if situation.walk.silent:
            return ("status", 0)
        name = situation.walk.asking.tree[1]
        return ("if", ("run", name), self.behind(number, 0), self.behind(number, 1))

    def behind(self, number, failed):
        """Returns what is carried out behind a status."""
        after, moves = self.every.found[number].steps[failed]
        old = self.slots[number]
        sources = ["now" if move == "now" else old[move] for move in moves]
        walk = self.every.found[after].walk
        if walk.status is not None:
            return self.ended(walk.status, sources)
        parts = self.moved({place: source for place, source in zip(self.slots[after], sources) if place != source})
        for bit, name in enumerate(self.bits):
            value = (self.places[after] >> bit) & 1
            if value != (self.places[number] >> bit) & 1:
                parts.append(("put", name, value))
        if len(parts) > 1:
            return ("seq", tuple(parts))
        return parts[0] if parts else ("status", 0)

    def ended(self, status, sources):
        if not sources:
            return ("exit", status)
        if sources[0] == "now":
            return ("exit", None)
        return ("seq", (("give", self.variables[sources[0]]), ("exit", None)))

    def moved(self, sources):
        """Returns trees that move failures to variables, all at once; `sources` tells from where."""
        parts = []
        spare = len(self.variables) - 1
        for place, source in list(sources.items()):
            # The failure that was told now is the last status, so it comes first.
            if source == "now":
                waits = place in list(sources.values())
                parts.append(("keep", self.variables[spare if waits else place]))
                if waits:
                    sources[place] = spare
                else:
                    del sources[place]
        while sources:
            free = [place for place in sources if place not in list(sources.values())]
            if free:
                parts.extend(self.copying(sources.pop(free[0]), free[0]))
            else:
                # Failures change places in a round: one of them steps aside.
                waiting = list(sources)[0]
                parts.extend(self.copying(waiting, spare - 1))
                sources = {place: spare - 1 if source == waiting else source for place, source in sources.items()}
        return parts

    def copying(self, source, place):
        """Returns the trees that move a failure from one variable to another."""
        return [("give", self.variables[source]), ("keep", self.variables[place])]
