"""Graphs: what leads where, what leads to one another, and ways through them.

A graph is a list with the tuple of the numbers that follow for each number. In
the graph of situations these are the ones behind 0 and behind a failure.
"""

from shellways.rows import row_to


def graph_of(every):
    """Returns the graph of the situations of a program."""
    graph = []
    for situation in every.found:
        steps = situation.steps
        graph.append(() if steps is None else (steps[0][0], steps[1][0]))
    return graph


def turned(graph):
    """Returns the graph in which all leads the other way."""
    befores = [[] for _ in graph]
    for number, following in enumerate(graph):
        for after in following:
            befores[after].append(number)
    return befores


def reached(graph, starts):
    """Returns for each number whether it is one of these or can be reached from them."""
    found = [False] * len(graph)
    coming = []
    for start in starts:
        if not found[start]:
            found[start] = True
            coming.append(start)
    while coming:
        number = coming.pop()
        for after in graph[number]:
            if not found[after]:
                found[after] = True
                coming.append(after)
    return found


def in_order_of_leaving(graph):
    """Returns all numbers in the order in which a walk that goes deep first leaves them."""
    left = []
    seen = [False] * len(graph)
    for start in range(len(graph)):
        coming = [] if seen[start] else [(start, 0)]
        seen[start] = True
        while coming:
            number, place = coming.pop()
            if place == len(graph[number]):
                left.append(number)
                continue
            coming.append((number, place + 1))
            after = graph[number][place]
            if not seen[after]:
                seen[after] = True
                coming.append((after, 0))
    return left


def components(graph):
    """Returns lists of numbers that lead to one another, those that lead to others first."""
    befores = turned(graph)
    seen = [False] * len(graph)
    found = []
    for start in reversed(in_order_of_leaving(graph)):
        if seen[start]:
            continue
        seen[start] = True
        members = []
        coming = [start]
        while coming:
            number = coming.pop()
            members.append(number)
            for before in befores[number]:
                if not seen[before]:
                    seen[before] = True
                    coming.append(before)
        found.append(members)
    return found


def is_round(graph, members):
    """Returns whether a way leads from a member of a component back to it."""
    return len(members) > 1 or members[0] in graph[members[0]]


def numbers_in_rounds(graph):
    """Returns all numbers from which a way leads back to them."""
    found = []
    for members in components(graph):
        if is_round(graph, members):
            found.extend(members)
    return found


def flags(graph, numbers):
    """Returns for each number of the graph whether it is one of these."""
    found = [False] * len(graph)
    for number in numbers:
        found[number] = True
    return found


# Ways, as rows of 0 and 1 through graphs of situations.


def way(graph, start, goals):
    """Returns the least row of one or more steps to a goal, and this goal; there is a way to one."""
    befores = {start: None}
    coming = [start]
    at = 0
    while True:
        number = coming[at]
        at += 1
        for status, after in enumerate(graph[number]):
            if goals[after]:
                return row_to(befores, number) + [status], after
            if after not in befores:
                befores[after] = (number, status)
                coming.append(after)


def way_with_fewest_failures(graph, goals):
    """Returns the tuple (failures, row, goal) of a way from 0 on, None if no goal can be reached."""
    befores = {0: None}
    coming = [0]
    failures = 0
    while coming:
        later = []
        at = 0
        while at < len(coming):
            number = coming[at]
            at += 1
            if goals[number]:
                return failures, row_to(befores, number), number
            for status, after in enumerate(graph[number]):
                if status == 1:
                    later.append((after, number))
                elif after not in befores:
                    befores[after] = (number, 0)
                    coming.append(after)
        coming = []
        for after, number in later:
            if after not in befores:
                befores[after] = (number, 1)
                coming.append(after)
        failures += 1
    return None


def round_of_zeros(graph):
    """Returns for each number the length of the round of zeros that it lies on, 0 if on none."""
    lengths = [0] * len(graph)
    # The number from which each number was first come to.
    origins = [None] * len(graph)
    for start in range(len(graph)):
        number = start
        trail = []
        while origins[number] is None:
            origins[number] = start
            trail.append(number)
            if not graph[number]:
                break
            number = graph[number][0]
        if graph[number] and origins[number] == start:
            members = trail[trail.index(number):]
            for member in members:
                lengths[member] = len(members)
    return lengths
