"""Runs: what a program does when it is told a row of statuses."""

from shellways.plans import plan_of
from shellways.rows import check_row
from shellways.walks import started_walk, tell


def run(program, row):
    """Returns the names of the commands that were told a status, and the outcome."""
    plan = plan_of(program)
    check_row(row)
    walk, told = carried_out(plan, row)
    return [node.tree[1] for node in told], outcome_of(walk, len(told))


def asked_paths(program, row):
    """Returns the paths of the runs that were told a status."""
    plan = plan_of(program)
    check_row(row)
    _, told = carried_out(plan, row)
    return [node.path for node in told]


def carried_out(plan, row):
    """Returns the walk behind the row and the nodes of the runs that were told a status."""
    walk = started_walk(plan)
    told = []
    for status in row:
        if walk.asking is None:
            break
        told.append(walk.asking)
        tell(walk, status)
    return walk, told


def outcome_of(walk, used):
    if walk.silent:
        return ("silent", used)
    if walk.asking is None:
        return ("ended", walk.status, used)
    return ("asks", walk.asking.tree[1])
