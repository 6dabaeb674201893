"""Machines followed step by step, for tests that look at results a second time."""

from shellways.errors import TooLarge
from shellways.machines import machine
from tests.samples import RichSampler, Sampler, sampled


def nexts_of(program):
    """The tuples of the situations behind 0 and behind a failure, () for situations that do not ask."""
    return [entry[4:6] and (entry[4][0], entry[5][0]) if entry[0] == "ask" else () for entry in machine(program)]


def number_behind(nexts, row):
    """The situation behind a row; the row must be asked for."""
    number = 0
    for status in row:
        number = nexts[number][1 if status else 0]
    return number


def closure(nexts, start):
    """All situations that can be come to from one, itself among them."""
    found = {start}
    coming = [start]
    while coming:
        for after in nexts[coming.pop()]:
            if after not in found:
                found.add(after)
                coming.append(after)
    return found


def small_samples(seeds, sizes=(3, 5, 8, 12, 20), most=40):
    """Yields programs that a seed chooses, with at most so many situations."""
    for kind in (Sampler, RichSampler):
        for program, _ in sampled(seeds, sizes, kind):
            try:
                if len(machine(program)) <= most:
                    yield program
            except TooLarge:
                pass
