"""How seldom commands can fail in endless runs."""

from math import gcd

from shellways.errors import InvalidNumber
from shellways.graphs import (
    components, flags, graph_of, is_round, round_of_zeros, way, way_with_fewest_failures,
)
from shellways.kinds import is_integer, is_list_of
from shellways.machines import all_situations
from shellways.plans import plan_of
from shellways.situations import row_behind


def least_share(program):
    """Returns the least share of failures in an endless run, and such a run.

    It is ("finite",) without endless runs, and ("few", failures, row, again) if one has finitely
    many failures; otherwise ("share", top, bottom, row, again).
    """
    every = all_situations(plan_of(program), False)
    graph = graph_of(every)
    rounds = round_of_zeros(graph)
    few = way_with_fewest_failures(graph, rounds)
    if few is not None:
        failures, row, number = few
        return "few", failures, row, [0] * rounds[number]
    found = least_round(graph)
    if found is None:
        return ("finite",)
    number, again, _ = found
    top, bottom = share_in(again)
    return "share", top, bottom, row_behind(every, every.found[number].before), again


def potentials(program):
    """Returns a list that shows that no endless run has a lesser share, None if there is no such share."""
    graph = graph_of(all_situations(plan_of(program), False))
    if any(round_of_zeros(graph)):
        return None
    found = least_round(graph)
    return None if found is None else found[2]


def share_in(again):
    """Returns the share of failures in a row of 0 and 1, in lowest terms."""
    common = gcd(sum(again), len(again))
    return sum(again) // common, len(again) // common


def least_round(graph):
    """Returns a round with the least share of failures, None if there is none.

    It is a tuple (number, again, potentials). From any round on, better ones are
    looked for until the potentials show that there is none.
    """
    found = some_round(graph)
    if found is None:
        return None
    while True:
        number, again = found
        top, bottom = share_in(again)
        shown, found = lowered(graph, top, bottom)
        if found is None:
            return number, again, shown


def some_round(graph):
    for members in components(graph):
        if is_round(graph, members):
            number = members[0]
            again, _ = way(graph, number, flags(graph, [number]))
            return number, again
    return None


def lowered(graph, top, bottom):
    """Returns potentials for a share, and a round (number, again) with a lesser share or None.

    Potentials are lowered until all steps keep to them. If a round has a lesser
    share, this has no end, and the steps that lowered numbers last make such a round.
    """
    worth = [0] * len(graph)
    befores = [None] * len(graph)
    lowering = True
    while lowering:
        lowering = False
        for number, following in enumerate(graph):
            for status, after in enumerate(following):
                most = worth[number] - top + status * bottom
                if worth[after] > most:
                    worth[after] = most
                    befores[after] = (number, status)
                    lowering = True
        found = round_in(befores) if lowering else None
        if found is not None:
            return worth, found
    return worth, None


def round_in(befores):
    """Returns a round (number, again) of the steps that lead to each number, None if there is none."""
    origins = [None] * len(befores)
    for start in range(len(befores)):
        number = start
        while origins[number] is None:
            origins[number] = start
            if befores[number] is None:
                break
            number = befores[number][0]
        if befores[number] is not None and origins[number] == start:
            return number, round_back(befores, number)
    return None


def round_back(befores, number):
    again = []
    at = number
    while not again or at != number:
        at, status = befores[at]
        again.append(status)
    again.reverse()
    return again


def shows_share(program, top, bottom, thing):
    """Returns whether the thing is a list that shows that no endless run has a share below top / bottom."""
    plan = plan_of(program)
    if not is_integer(top) or top < 0:
        raise InvalidNumber("top")
    if not is_integer(bottom) or bottom < 1:
        raise InvalidNumber("bottom")
    graph = graph_of(all_situations(plan, False))
    if not is_list_of(thing, len(graph), is_integer):
        return False
    for number, following in enumerate(graph):
        for status, after in enumerate(following):
            if thing[after] > thing[number] - top + status * bottom:
                return False
    return True
