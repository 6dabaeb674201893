"""Logs: whether a run can have written them, and which lines may be lost."""

from shellways.errors import InvalidLog, Mismatch
from shellways.kinds import is_name, is_status
from shellways.machines import all_situations
from shellways.plans import plan_of
from shellways.readings import Reading, layers_of, marked_lines, read_back, replayed, ways_through

LONGEST_LOG = 200


def fits(program, log, outcome):
    """Returns the first line that cannot be if no line is lost, None if all can.

    It is the number of lines if only the outcome cannot be.
    """
    every = situations_for_log(program, log, outcome)
    free = Reading(every, log, None)
    states = [free.start()]
    for place in range(len(log)):
        states = kept_behind(free, states)
        if not states:
            return place
    told = Reading(every, log, outcome)
    states = [told.start()]
    for _ in log:
        states = kept_behind(told, states)
    return None if any([told.is_over(state) for state in states]) else len(log)


def kept_behind(reading, states):
    """Returns the states behind one more line of the log."""
    later = {}
    for state in states:
        for after, kept, _, _ in reading.moves(state):
            if kept:
                later[after] = True
    return list(later)


def situations_for_log(program, log, outcome):
    """Returns the situations of the program if all arguments are as described."""
    plan = plan_of(program)
    if not isinstance(log, (list, tuple)) or len(log) > LONGEST_LOG:
        raise InvalidLog(-1)
    for index, line in enumerate(log):
        if not is_line(line):
            raise InvalidLog(index)
    if not is_outcome(outcome):
        raise Mismatch("outcome")
    return all_situations(plan, False)


def is_line(value):
    if not isinstance(value, tuple) or len(value) != 2:
        return False
    return is_name(value[0]) and is_status_or_none(value[1])


def is_status_or_none(value):
    return value is None or is_status(value)


def is_outcome(value):
    if value is None:
        return True
    if not isinstance(value, tuple) or not value or not isinstance(value[0], str):
        return False
    if value[0] == "asks":
        return len(value) == 1
    return value[0] == "ended" and len(value) == 2 and is_status_or_none(value[1])


# Explanations.


def lost(program, log, outcome):
    """Returns the least number of lost lines of all explanations, None if there is no explanation."""
    every = situations_for_log(program, log, outcome)
    return fewest_lost(Reading(every, log, outcome))


def fewest_lost(reading):
    layers = layers_of(reading)
    return None if layers is None else len(layers) - 1 - len(reading.log)


def explained(program, log, outcome):
    """Returns an explanation with as few lost lines as possible, None if there is none."""
    every = situations_for_log(program, log, outcome)
    reading = Reading(every, log, outcome)
    layers = layers_of(reading)
    return None if layers is None else read_back(reading, layers)


def explains(program, log, outcome, thing):
    """Returns whether the thing is an explanation with as few lost lines as possible."""
    every = situations_for_log(program, log, outcome)
    if not isinstance(thing, list) or not all([is_told_line(line) for line in thing]):
        return False
    kept = [line for line in thing if line[2]]
    if len(kept) != len(log):
        return False
    for line, (name, status) in zip(kept, log):
        if line[0] != name or (status is not None and line[1] != status):
            return False
    if not replayed(every, thing, outcome):
        return False
    return len(thing) - len(log) == fewest_lost(Reading(every, log, outcome))


def is_told_line(value):
    """Returns whether the value is a line of an explanation: a tuple (name, status, kept)."""
    if not isinstance(value, tuple) or len(value) != 3:
        return False
    return isinstance(value[0], str) and is_status(value[1]) and isinstance(value[2], bool)


def explanations(program, log, outcome):
    """Returns how many explanations with the fewest lost lines differ in more than in which failures are told."""
    every = situations_for_log(program, log, outcome)
    reading = Reading(every, log, outcome)
    layers = layers_of(reading)
    return 0 if layers is None else ways_through(reading, layers)


def sure(program, log, outcome):
    """Returns for each line "well", "failed" or "open": its status in all explanations with the fewest lost lines.

    None if there is no explanation.
    """
    every = situations_for_log(program, log, outcome)
    reading = Reading(every, log, outcome)
    layers = layers_of(reading)
    if layers is None:
        return None
    words = {(True, False): "well", (False, True): "failed", (True, True): "open"}
    return [words[(well, failed)] for well, failed in marked_lines(reading, layers)]
