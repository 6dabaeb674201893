"""Machines: lists of all situations of a program and of the steps between them."""

from shellways.errors import InvalidMachine, InvalidRow, TooLarge
from shellways.kinds import is_integer
from shellways.plans import plan_of
from shellways.rows import check_row
from shellways.situations import situations_of

MOST_SITUATIONS = 1000


def machine(program):
    """Returns the list of all situations."""
    return entries_of(all_situations(plan_of(program), False))


def situations(program):
    """Returns the number of situations."""
    return len(all_situations(plan_of(program), False).found)


def after(program, row):
    """Returns the situation behind the row, and the indexes of the failures in its slots."""
    plan = plan_of(program)
    check_row(row)
    every = all_situations(plan, False)
    number = 0
    indexes = ()
    for index, status in enumerate(row):
        steps = every.found[number].steps
        if steps is None:
            raise InvalidRow(index)
        number, moves = steps[0 if status == 0 else 1]
        indexes = tuple([index if move == "now" else indexes[move] for move in moves])
    return number, indexes


def check_machine(program, rows):
    """Returns None if the rows are the machine of the program; raises InvalidMachine otherwise."""
    entries = machine(program)
    if not isinstance(rows, list):
        raise InvalidMachine(-1)
    for index, entry in enumerate(entries):
        if index == len(rows) or not is_same(rows[index], entry):
            raise InvalidMachine(index)
    if len(rows) > len(entries):
        raise InvalidMachine(len(entries))


def all_situations(plan, noting, most=MOST_SITUATIONS):
    """Returns the situations of a program with all their steps; raises TooLarge if there are more."""
    every = situations_of(plan, noting)
    number = 0
    while number < len(every.found):
        if every.found[number].walk.asking is not None:
            every.steps_of(number)
        if len(every.found) > most:
            raise TooLarge(most)
        number += 1
    return every


def situations_of_small(plan, most):
    """Returns the situations of a program with at most so many trees; raises TooLarge if it has more."""
    if plan.check.trees > most:
        raise TooLarge(most)
    return all_situations(plan, False)


def entries_of(every):
    return [entry_of(situation) for situation in every.found]


def entry_of(situation):
    """Returns the entry of a machine for a situation."""
    walk = situation.walk
    if walk.silent:
        return ("silent",)
    if walk.asking is None:
        return ("end", walk.status if situation.slots == 0 else "slot")
    node = walk.asking
    return ("ask", node.path, node.tree[1], situation.slots, *situation.steps)


def is_same(value, entry):
    """Returns whether a value of any kind is just as the entry, or as a part of one."""
    if isinstance(entry, tuple):
        if not isinstance(value, tuple) or len(value) != len(entry):
            return False
        return all([is_same(value[place], part) for place, part in enumerate(entry)])
    if isinstance(entry, str):
        return isinstance(value, str) and value == entry
    return is_integer(value) and value == entry
