"""Programs that are alike, and rows that part others."""

from itertools import combinations

from shellways.checks import checked
from shellways.errors import InvalidName, TooLarge
from shellways.kinds import is_integer, is_name
from shellways.machines import all_situations
from shellways.pairs import MOST_PAIRS, START, Pairs, told_row
from shellways.plans import plan_of
from shellways.rows import check_row
from shellways.shells import carried_out, outcome_of
from shellways.situations import situations_of
from shellways.trees import changed_program

MOST_COMMANDS = 8


def alike(program, other):
    """Returns whether run returns the same for both programs, for every row."""
    return pairs_of(program, other, ()).parting_row(START) is None


def pairs_of(program, other, sure):
    one = situations_of(plan_of(program), False)
    return Pairs(one, situations_of(plan_of(other), False), sure, MOST_PAIRS)


def parting_row(program, other):
    """Returns a shortest row for which run returns different results, None if there is none."""
    row = pairs_of(program, other, ()).parting_row(START)
    return None if row is None else told_row(row)


def shows_parting(program, other, row):
    """Returns whether run returns different results for the row."""
    plans = [plan_of(program), plan_of(other)]
    check_row(row)
    results = []
    for plan in plans:
        walk, told = carried_out(plan, row)
        results.append(([node.tree[1] for node in told], outcome_of(walk, len(told))))
    return results[0] != results[1]


def fewest_failures(program, other):
    """Returns the least number of failures in a row that parts the programs, None if they are alike."""
    return pairs_of(program, other, ()).fewest_failures()


# Papers.


def machines_of(program, other):
    """Returns all situations of both programs."""
    plans = [plan_of(program), plan_of(other)]
    return [all_situations(plan, False) for plan in plans]


def alike_paper(program, other):
    """Returns a list of tuples (i, j, links) that shows that the programs are alike, None if they are not."""
    one, two = machines_of(program, other)
    pairs = Pairs(one, two, (), MOST_PAIRS)
    if pairs.parting_row(START) is not None:
        return None
    return list(pairs.same)


def shows_alike(program, other, paper):
    """Returns whether the paper is a list or tuple that shows that the programs are alike."""
    one, two = machines_of(program, other)
    if not isinstance(paper, (list, tuple)):
        return False
    pairs = Pairs(one, two, (), None)
    known = {}
    for pair in paper:
        if not is_pair(pair, one.found, two.found) or pairs.is_parted(pair):
            return False
        known[pair] = True
    if START not in known:
        return False
    return all([pairs.behind(pair, status) in known for pair in known for status in pairs.statuses(pair)])


def is_pair(pair, one, two):
    """Returns whether the value is a tuple of numbers of situations and of links between their slots."""
    if not isinstance(pair, tuple) or len(pair) != 3 or not isinstance(pair[2], tuple):
        return False
    i, j, links = pair
    if not is_place(i, len(one)) or not is_place(j, len(two)):
        return False
    for link in links:
        if not isinstance(link, tuple) or len(link) != 2:
            return False
        if not is_place(link[0], one[i].slots) or not is_place(link[1], two[j].slots):
            return False
    # The slots of a situation hold different failures, so no slot is linked twice.
    firsts = [link[0] for link in links]
    return firsts == sorted(set(firsts)) and len(links) == len({link[1] for link in links})


def is_place(value, many):
    return is_integer(value) and 0 <= value < many


# Commands that do not fail.


def alike_if_sure(program, other, names):
    """Returns whether run returns the same for every row without failures of these commands."""
    pairs = pairs_of(program, other, ())
    check_names(names)
    pairs.sure = {name: True for name in names}
    return pairs.parting_row(START) is None


def check_names(names):
    if not isinstance(names, (list, tuple)):
        raise InvalidName(names)
    for name in names:
        if not is_name(name):
            raise InvalidName(name)


def least_sure(program, other):
    """Returns the shortest tuple of commands that must not fail so that both are alike, or None."""
    plans = [plan_of(program), plan_of(other)]
    names = sorted({name for plan in plans for name in plan.check.commands})
    if len(names) > MOST_COMMANDS:
        raise TooLarge(MOST_COMMANDS)
    one, two = [situations_of(plan, False) for plan in plans]
    # The commands that fail in rows that part the programs: one of each is in every answer.
    failing = []
    for many in range(len(names) + 1):
        for sure in combinations(names, many):
            if not all([has_common(sure, failed) for failed in failing]):
                continue
            pairs = Pairs(one, two, sure, MOST_PAIRS)
            row = pairs.parting_row(START)
            if row is None:
                return sure
            failing.append(failed_commands(pairs, row))
    return None


def has_common(names, others):
    return any([name in others for name in names])


def failed_commands(pairs, row):
    """Returns the commands that are told a failure of the row."""
    failed = []
    pair = START
    for status in row:
        if status:
            failed.append(pairs.one.found[pair[0]].walk.asking.tree[1])
        pair = pairs.behind(pair, status)
    return failed


# Trees in the place of a command.


def filled(program, name, tree):
    """Returns the program in which the tree stands in the place of every run of the command."""
    checked(program)
    if not is_name(name):
        raise InvalidName(name)
    result = changed_program(program, lambda part: tree if part == ("run", name) else part)
    checked(result)
    return result


def alike_in(program, name, tree, other):
    """Returns whether the programs filled with either tree are alike."""
    one = filled(program, name, tree)
    return alike(one, filled(program, name, other))
