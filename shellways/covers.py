"""Rows that take all steps of a machine, and steps of which no run takes two."""

from shellways.errors import TooLarge
from shellways.graphs import components, flags, graph_of, is_round, reached, way
from shellways.kinds import is_integer
from shellways.machines import all_situations
from shellways.matching import apart_items, chains_of
from shellways.plans import plan_of

MOST_STEPS = 200


def tests(program):
    """Returns a list of as few rows as possible that together take every step."""
    graph = small_graph(program)
    items = items_of(graph)
    rows = []
    for chain in chains_of(orders_of(graph, items)):
        rows.append(row_through(graph, [items[place] for place in chain]))
    return rows


def apart(program):
    """Returns a list of as many steps as there are rows in tests, of which no run takes two."""
    graph = small_graph(program)
    items = items_of(graph)
    found = []
    for place in apart_items(orders_of(graph, items)):
        number, failed = items[place][0]
        found.append((number, failed == 1))
    return found


def small_graph(program):
    """Returns the graph of the situations of a program; raises TooLarge if it has too many steps."""
    graph = graph_of(all_situations(plan_of(program), False))
    if sum([len(following) for following in graph]) > MOST_STEPS:
        raise TooLarge(MOST_STEPS)
    return graph


def items_of(graph):
    """Returns lists of steps that one run can take: all inside a group that leads back to itself, or one alone."""
    items = []
    homes = [None] * len(graph)
    for place, members in enumerate(components(graph)):
        for number in members:
            homes[number] = place
        if is_round(graph, members):
            inside = flags(graph, members)
            items.append([(number, failed) for number in members for failed in (0, 1) if inside[graph[number][failed]]])
    for number, following in enumerate(graph):
        for failed, after in enumerate(following):
            if homes[number] != homes[after]:
                items.append([(number, failed)])
    return items


def end_of(graph, step):
    number, failed = step
    return graph[number][failed]


def orders_of(graph, items):
    """Returns for each item the list of the others that a run can take behind it."""
    orders = []
    for place, steps in enumerate(items):
        behind = reached(graph, [end_of(graph, steps[-1])])
        orders.append([other for other, later in enumerate(items) if other != place and behind[later[0][0]]])
    return orders


def row_through(graph, items):
    """Returns a row that takes all steps of items, which can be taken one behind the other."""
    row = []
    number = 0
    for steps in items:
        left = {step: True for step in steps}
        while left:
            starts = flags(graph, [step[0] for step in left])
            if not starts[number]:
                more, number = way_that_takes(graph, number, starts, left)
                row.extend(more)
            step = [other for other in left if other[0] == number][0]
            del left[step]
            row.append(step[1])
            number = end_of(graph, step)
    return row


def way_that_takes(graph, number, goals, left):
    """Returns the least row to a goal, and this goal; what is on the way is not left any more."""
    row, goal = way(graph, number, goals)
    for failed in row:
        if (number, failed) in left:
            del left[(number, failed)]
        number = graph[number][failed]
    return row, goal


def takes_all(program, rows):
    """Returns whether the rows are a list of rows of 0 and 1 that together take every step."""
    graph = small_graph(program)
    if not isinstance(rows, list):
        return False
    taken = {}
    for row in rows:
        if not isinstance(row, list):
            return False
        number = 0
        for status in row:
            if not is_integer(status) or status not in (0, 1) or not graph[number]:
                return False
            taken[(number, status)] = True
            number = graph[number][status]
    return len(taken) == sum([len(following) for following in graph])


def are_apart(program, steps):
    """Returns whether the steps are a list of different steps of which no run takes two."""
    graph = small_graph(program)
    if not isinstance(steps, list) or not all([is_step(step, graph) for step in steps]):
        return False
    for place, step in enumerate(steps):
        behind = reached(graph, [graph[step[0]][1 if step[1] else 0]])
        for other, later in enumerate(steps):
            # A step twice is taken by one run, too.
            if other != place and (behind[later[0]] or later == step):
                return False
    return True


def is_step(value, graph):
    """Returns whether the value is a step: the number of a situation that asks, and a bool."""
    if not isinstance(value, tuple) or len(value) != 2:
        return False
    number, failed = value
    if not is_integer(number) or not isinstance(failed, bool):
        return False
    return 0 <= number < len(graph) and len(graph[number]) > 0
