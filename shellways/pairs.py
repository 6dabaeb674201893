"""Two programs side by side: the pairs of situations that the same rows lead to.

A pair is a tuple (i, j, links): situations of both programs, and the ascending
tuple of the pairs (slot of i, slot of j) that hold the same told failure.
"""

from shellways.errors import TooLarge
from shellways.rows import row_to
from shellways.situations import situations_of

START = (0, 0, ())

MOST_PAIRS = 2000

# Numbers of programs are at most 255, so failures from here on equal none of them.
FIRST_FAILURE = 256


class Pairs:
    """The pairs of the situations of two programs, which are found as they are needed."""

    def __init__(self, one, other, sure, limit):
        self.one = one
        self.other = other
        # Names of commands that are told no failure.
        self.sure = sure
        # How many pairs may be found from one start, None if any number.
        self.limit = limit
        # Pairs behind which all is the same, and pairs behind which something
        # parts the programs, as far as this is known.
        self.same = {}
        self.apart = {}

    def is_parted(self, pair):
        """Returns whether both situations differ in what can be seen of them."""
        i, j, links = pair
        one = self.one.found[i].walk
        other = self.other.found[j].walk
        if one.asking is not None and other.asking is not None:
            return one.asking.tree[1] != other.asking.tree[1]
        if one.status is None or other.status is None:
            return not (one.silent and other.silent)
        # The symbol of a slot is below 0.
        return one.status != other.status or (one.status < 0 and links != ((0, 0),))

    def statuses(self, pair):
        """Returns the statuses 0 and 1 with which both programs go on."""
        asking = self.one.found[pair[0]].walk.asking
        if asking is None:
            return ()
        return (0,) if asking.tree[1] in self.sure else (0, 1)

    def behind(self, pair, status):
        """Returns the pair behind a status."""
        i, j, links = pair
        after_i, moves_i = self.one.steps_of(i)[status]
        after_j, moves_j = self.other.steps_of(j)[status]
        linked = dict(links)
        linked["now"] = "now"
        slots = {move: slot for slot, move in enumerate(moves_j)}
        joined = []
        for slot, move in enumerate(moves_i):
            if move in linked and linked[move] in slots:
                joined.append((slot, slots[linked[move]]))
        return after_i, after_j, tuple(joined)

    def search(self, start):
        """Looks for a pair that is parted, from a pair on.

        Returns how the pairs were found, as row_to takes it, and the parted one or None.
        """
        befores = {start: None}
        if self.is_parted(start) or start in self.apart:
            return befores, start
        coming = [start]
        at = 0
        while at < len(coming):
            pair = coming[at]
            at += 1
            for status in self.statuses(pair):
                after = self.behind(pair, status)
                if after in befores or after in self.same:
                    continue
                befores[after] = (pair, status)
                if self.is_parted(after) or after in self.apart:
                    return befores, after
                self.keep_limit(len(befores))
                coming.append(after)
        for pair in befores:
            self.same[pair] = True
        return befores, None

    def parting_row(self, start):
        """Returns a shortest row of 0 and 1 that parts the programs, None if there is none."""
        befores, parted = self.search(start)
        return None if parted is None else row_to(befores, parted)

    def is_apart(self, start):
        """Returns whether some row parts the programs, from a pair on.

        What is found is kept, for questions about many pairs. Rows that are
        asked for behind this need not be the shortest ones.
        """
        if start in self.same:
            return False
        befores, parted = self.search(start)
        step = None if parted is None else (parted, None)
        while step is not None:
            self.apart[step[0]] = True
            step = befores[step[0]]
        return parted is not None

    def keep_limit(self, many):
        if self.limit is not None and many > self.limit:
            raise TooLarge(self.limit)

    def fewest_failures(self):
        """Returns the least number of failures in a row that parts the programs, or None."""
        if self.is_parted(START):
            return 0
        known = {START: True}
        done = {}
        coming = [START]
        failures = 0
        while coming:
            later = []
            parted = False
            while coming:
                pair = coming.pop()
                if pair in done:
                    continue
                done[pair] = True
                for status in self.statuses(pair):
                    after = self.behind(pair, status)
                    if self.is_parted(after):
                        if status == 0:
                            return failures
                        # Other rows with as few failures as so far may part the programs, too.
                        parted = True
                    else:
                        known[after] = True
                        if status == 0:
                            coming.append(after)
                        else:
                            later.append(after)
                self.keep_limit(len(known))
            if parted:
                return failures + 1
            coming = later
            failures += 1
        return None


def is_alike(every, plan):
    """Returns whether the program of a plan is alike to the one with these situations."""
    pairs = Pairs(every, situations_of(plan, False), (), None)
    return pairs.parting_row(START) is None


def told_row(row):
    """Returns the row of 0 and 1 with another number for each failure, and none of a program."""
    return [FIRST_FAILURE + index if status else 0 for index, status in enumerate(row)]
