"""What can happen: ways to commands and ends, what comes surely, and which failures matter."""

from shellways.errors import InvalidName, InvalidNumber, InvalidRow
from shellways.futures import Futures
from shellways.graphs import (
    components, flags, graph_of, is_round, numbers_in_rounds, reached, round_of_zeros, turned, way,
    way_with_fewest_failures,
)
from shellways.kinds import is_list_of, is_name, is_status
from shellways.machines import all_situations
from shellways.plans import plan_of
from shellways.rows import check_row, row_to
from shellways.situations import row_behind


def way_to(program, name):
    """Returns the least row behind which the program asks for the command, None if there is none."""
    every = situations_for_name(program, name)
    return least_row(every, lambda situation: asks_for(situation, name))


def situations_for_name(program, name):
    plan = plan_of(program)
    if not is_name(name):
        raise InvalidName(name)
    return all_situations(plan, False)


def asks_for(situation, name):
    asking = situation.walk.asking
    return asking is not None and asking.tree[1] == name


def least_row(every, is_goal):
    """Returns the least row behind which a situation is a goal.

    Situations are found in the order of the least rows that lead to them.
    """
    for situation in every.found:
        if is_goal(situation):
            return row_behind(every, situation.before)
    return None


def way_to_end(program, status):
    """Returns the least row of 0 and the status, or 1, behind which it has ended with the status."""
    plan = plan_of(program)
    if not is_status(status):
        raise InvalidNumber("status")
    every = all_situations(plan, False)
    # All failures of the row are the status, so also one that the end tells.
    row = least_row(every, lambda situation: ends_with(situation, status) or (status > 0 and tells_failure(situation)))
    if row is None:
        return None
    failure = 1 if status == 0 else status
    return [failure if failed else 0 for failed in row]


def ends_with(situation, number):
    return situation.walk.status == number


def tells_failure(situation):
    """Returns whether the program has ended with a failure that was told."""
    return situation.walk.status is not None and situation.slots == 1


def way_to_silence(program):
    """Returns the least row behind which the program is silent, None if there is none."""
    return least_row(all_situations(plan_of(program), False), lambda situation: situation.walk.silent)


# Commands that come surely.


def graph_without(every, name):
    """Returns the graph of the situations in which nothing follows where the command is asked for."""
    graph = graph_of(every)
    for number, situation in enumerate(every.found):
        if asks_for(situation, name):
            graph[number] = ()
    return graph


def surely(program, name):
    """Returns a list of numbers that shows that every run asks for the command, None if some does not."""
    every = situations_for_name(program, name)
    graph = graph_without(every, name)
    if escape_in(every, graph, name) is not None:
        return None
    shown = [0] * len(graph)
    later = components(graph)
    later.reverse()
    for place, members in enumerate(later):
        # No way leads from a situation back to it, without asking for the command.
        shown[members[0]] = place
    return shown


def escape(program, name):
    """Returns a run that never asks for the command, as a tuple (row, again), None if there is none."""
    every = situations_for_name(program, name)
    return escape_in(every, graph_without(every, name), name)


def escape_in(every, graph, name):
    found = reached(graph, [0])
    for number, situation in enumerate(every.found):
        if found[number] and situation.steps is None:
            return way_or_none(graph, number), []
    for members in components(graph):
        if found[members[0]] and is_round(graph, members):
            number = members[0]
            again, _ = way(graph, number, flags(graph, [number]))
            return way_or_none(graph, number), again
    return None


def way_or_none(graph, number):
    """Returns the least row that leads to a number that can be reached, which may be the start."""
    if number == 0:
        return []
    row, _ = way(graph, 0, flags(graph, [number]))
    return row


def shows_surely(program, name, thing):
    """Returns whether the thing is a list that shows that every run asks for the command."""
    every = situations_for_name(program, name)
    graph = graph_without(every, name)
    if not is_list_of(thing, len(graph), is_status):
        return False
    found = reached(graph, [0])
    for number, situation in enumerate(every.found):
        if found[number] and situation.steps is None:
            return False
        if found[number] and any([thing[after] >= thing[number] for after in graph[number]]):
            return False
    return True


# Failures.


def hardiness(program):
    """Returns a run with the fewest failures that does not end well, None if there is none.

    It is a tuple (failures, row, again). A run with endlessly many failures does not count.
    """
    every = all_situations(plan_of(program), False)
    graph = graph_of(every)
    rounds = round_of_zeros(graph)
    goals = []
    for number, situation in enumerate(every.found):
        goals.append(rounds[number] > 0 or (situation.steps is None and not ends_with(situation, 0)))
    found = way_with_fewest_failures(graph, goals)
    if found is None:
        return None
    failures, row, number = found
    return failures, row, [0] * rounds[number]


def deaf(program):
    """Returns the situations that ask, and from which all is the same whether the command fails or not."""
    every = all_situations(plan_of(program), False)
    return [number for number, is_deaf in enumerate(deaf_flags(every)) if is_deaf]


def deaf_flags(every):
    futures = Futures(every)
    return [situation.steps is not None and futures.is_deaf(number) for number, situation in enumerate(every.found)]


def unnoticed(program, name):
    """Returns the least row with which the program ends with 0 although the command has failed.

    Failures in deaf situations do not count. None if there is no such row.
    """
    every = situations_for_name(program, name)
    is_deaf = deaf_flags(every)
    counted = [asks_for(situation, name) and not is_deaf[number] for number, situation in enumerate(every.found)]
    start = (0, False)
    befores = {start: None}
    coming = [start]
    at = 0
    while at < len(coming):
        place = coming[at]
        at += 1
        number, failed = place
        situation = every.found[number]
        if failed and ends_with(situation, 0):
            return row_to(befores, place)
        for status, step in enumerate(situation.steps or ()):
            after = (step[0], failed or (status == 1 and counted[number]))
            if after not in befores:
                befores[after] = (place, status)
                coming.append(after)
    return None


# What can still happen behind a row.


def fate(program, row):
    """Returns "good", "bad" or "open": whether the program can and must end with 0 behind the row."""
    return fates_behind(program, row)[-1]


def sealed(program, row):
    """Returns how many of the first statuses decide the fate, None if it is open behind the row."""
    for many, word in enumerate(fates_behind(program, row)):
        if word != "open":
            return many
    return None


def fates_behind(program, row):
    """Returns the fates behind no status of the row, the first one, and so on."""
    plan = plan_of(program)
    check_row(row)
    every = all_situations(plan, False)
    numbers = [0]
    for index, status in enumerate(row):
        steps = every.found[numbers[-1]].steps
        if steps is None:
            raise InvalidRow(index)
        numbers.append(steps[0 if status == 0 else 1][0])
    graph = graph_of(every)
    befores = turned(graph)
    well = [number for number, situation in enumerate(every.found) if ends_with(situation, 0)]
    others = [number for number, following in enumerate(graph) if not following and number not in well]
    can_well = reached(befores, well)
    can_badly = reached(befores, others + numbers_in_rounds(graph))
    words = {(True, False): "good", (False, True): "bad", (True, True): "open"}
    return [words[(can_well[number], can_badly[number])] for number in numbers]
