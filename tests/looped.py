"""Programs whose situations lead to one another in any way, for tests.

A graph is a list with what follows behind 0 and behind a failure for each place:
a place, a number with which the program ends, "told" if it ends with the failure, or
"silent".
"""

import random

BITS = "stuvw"


def looped(graph, names):
    """The program of a graph with the commands of its places: one loop, with the place in bits."""
    places = [tree_of(place, after, name) for place, (after, name) in enumerate(zip(graph, names))]
    # What stands behind the last place begins again and again without asking.
    return ((), ("while", ("status", 0), chosen(places + [("status", 0)])))


def tree_of(place, after, name):
    return ("if", ("run", name), moved(place, after[0]), moved(place, after[1]))


def moved(place, after):
    if after == "told":
        return ("exit", None)
    if isinstance(after, tuple):
        return ("exit", after[0])
    puts = [("put", bit, after >> k & 1) for k, bit in enumerate(BITS) if (after >> k & 1) != (place >> k & 1)]
    if len(puts) > 1:
        return ("seq", tuple(puts))
    return puts[0] if puts else ("status", 0)


def chosen(trees):
    if len(trees) == 1:
        return trees[0]
    bit = (len(trees) - 1).bit_length() - 1
    return ("if", ("zero", BITS[bit]), chosen(trees[:1 << bit]), chosen(trees[1 << bit:]))


def looped_samples(seeds, most=9):
    """Yields programs of graphs that a seed chooses, with at most so many places."""
    for seed in seeds:
        chance = random.Random(seed)
        size = chance.randint(1, most)
        leaving = chance.choice((0.05, 0.15, 0.3))

        def after(failed):
            if chance.random() < leaving:
                return chance.choice(((0,), (0,), (3,), size) + (("told",) if failed else ()))
            return chance.randrange(size)
        graph = [(after(False), after(True)) for _ in range(size)]
        yield looped(graph, [chance.choice("aabc") for _ in range(size)])
