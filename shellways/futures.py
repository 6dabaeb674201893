"""Which situations have the same future, and which slots in them.

A situation and one of its slots, or none, are a state of an automaton: it goes on
with 0, with a failure, and with a failure that takes the place of the slot. Two
states do the same if the same is seen of them behind all words of these three.
So situations do the same exactly if their states without a slot do; and two slots
of such situations that hold the same failure make no difference if their states do
the same, too. A slot that matters no more does the same as no slot.
"""

NO_SLOT = -1
LETTERS = (0, 1, 2)


class Futures:
    """The situations of a program, by what comes behind them."""

    def __init__(self, every):
        self.every = every
        # The number of the state without a slot of each situation; those with slots follow it.
        self.firsts = []
        many = 0
        for situation in every.found:
            self.firsts.append(many)
            many += 1 + situation.slots
        marks = []
        following = []
        for situation in every.found:
            for slot in range(NO_SLOT, situation.slots):
                marks.append(mark_of(situation, slot))
                following.append(self.states_behind(situation, slot))
        self.classes = classes_of(marks, following)

    def states_behind(self, situation, slot):
        if situation.steps is None:
            return ()
        (well, well_moves), (badly, badly_moves) = situation.steps
        return (self.state(well, well_moves, slot), self.state(badly, badly_moves, slot),
                self.state(badly, badly_moves, "now"))

    def state(self, number, moves, source):
        """Returns the state with the slot that comes from this source."""
        slot = moves.index(source) if source in moves else NO_SLOT
        return self.firsts[number] + 1 + slot

    def class_of(self, number, slot):
        return self.classes[self.firsts[number] + 1 + slot]

    def matters(self, number, slot):
        """Returns whether it makes a difference what a slot holds."""
        return self.class_of(number, slot) != self.class_of(number, NO_SLOT)

    def is_deaf(self, number):
        """Returns whether all is the same behind 0 and behind a failure."""
        (well, well_moves), (badly, badly_moves) = self.every.found[number].steps
        if self.class_of(well, NO_SLOT) != self.class_of(badly, NO_SLOT):
            return False
        for slot, move in enumerate(well_moves):
            if move in badly_moves:
                if self.class_of(well, slot) != self.class_of(badly, badly_moves.index(move)):
                    return False
            elif self.matters(well, slot):
                return False
        return not any([self.matters(badly, slot) for slot, move in enumerate(badly_moves) if move not in well_moves])


def mark_of(situation, slot):
    """Returns what can be seen of a state."""
    walk = situation.walk
    if walk.asking is not None:
        return ("asks", walk.asking.tree[1])
    if walk.silent:
        return ("silent", 0)
    return ("slot", slot) if situation.slots else ("number", walk.status)


def classes_of(marks, following):
    """Returns a number for each state; two states have the same one if they do the same.

    `following` tells for each state what follows behind the three letters, () if nothing does;
    something follows behind both of two states with the same mark, or behind neither.
    """
    befores = [befores_by(following, letter) for letter in LETTERS]
    classes, blocks = classes_by(marks)
    coming = [(block, letter) for block in range(len(blocks)) for letter in LETTERS]
    waiting = {key: True for key in coming}
    while coming:
        key = coming.pop()
        waiting[key] = False
        block, letter = key
        touched = {}
        for state in blocks[block]:
            for before in befores[letter][state]:
                touched.setdefault(classes[before], []).append(before)
        for other, members in touched.items():
            if len(members) < len(blocks[other]):
                split(classes, blocks, other, members)
                coming.extend(keys_behind_split(waiting, blocks, other))
    return classes


def befores_by(following, letter):
    """Returns for each state the list of those behind which it follows with a letter."""
    befores = [[] for _ in following]
    for state, after in enumerate(following):
        if after:
            befores[after[letter]].append(state)
    return befores


def keys_behind_split(waiting, blocks, other):
    """Returns the keys that wait because a block lost members to the last block."""
    new = len(blocks) - 1
    lesser = new if len(blocks[new]) <= len(blocks[other]) else other
    keys = []
    for letter in LETTERS:
        # If the whole block waits, both its parts must wait.
        key = (new if waiting[(other, letter)] else lesser, letter)
        waiting[(new, letter)] = False
        waiting[key] = True
        keys.append(key)
    return keys


def classes_by(marks):
    """Returns the classes of states with the same mark, and the lists of their members."""
    numbers = {}
    for mark in marks:
        if mark not in numbers:
            numbers[mark] = len(numbers)
    blocks = [[] for _ in numbers]
    for state, mark in enumerate(marks):
        blocks[numbers[mark]].append(state)
    return [numbers[mark] for mark in marks], blocks


def split(classes, blocks, block, members):
    """Puts some members of a block into a new one."""
    for state in members:
        classes[state] = len(blocks)
    new = len(blocks)
    blocks[block] = [state for state in blocks[block] if classes[state] != new]
    blocks.append(members)
