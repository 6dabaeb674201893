"""Answers found by trying all rows up to a length, for tests."""

from shellways.shells import run


def told(bits):
    """The row with another number for each failure, none of which is a number of a program."""
    return [1000 + index if bit else 0 for index, bit in enumerate(bits)]


def rows_of(program, length):
    """Yields the tuples (row of 0 and 1, result) of all rows that the program does not end before."""
    rows = [[]]
    while rows:
        longer = []
        for row in rows:
            result = run(program, told(row))
            yield row, result
            if result[1][0] == "asks" and len(row) < length:
                longer += [row + [0], row + [1]]
        rows = longer


def parting_rows(program, other, length):
    """Yields the rows up to a length that part two programs, none behind another one; shorter ones first."""
    rows = [[]]
    while rows:
        longer = []
        for row in rows:
            result = run(program, told(row))
            if result != run(other, told(row)):
                yield row
            elif result[1][0] == "asks" and len(row) < length:
                longer += [row + [0], row + [1]]
        rows = longer


def are_same(program, other, length, silent_too=False):
    """Whether both do the same for all rows up to a length, unless one of them is silent."""
    rows = [[]]
    while rows:
        row = rows.pop()
        results = [run(program, told(row)), run(other, told(row))]
        if "silent" in (results[0][1][0], results[1][1][0]) and not silent_too:
            continue
        if results[0] != results[1]:
            return False
        if results[0][1][0] == "asks" and len(row) < length:
            rows += [row + [0], row + [1]]
    return True
