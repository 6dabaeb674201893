"""Rows of statuses."""

from shellways.errors import InvalidRow
from shellways.kinds import is_status

LONGEST_ROW = 10000


def check_row(row):
    """Returns None if the value is a row; raises InvalidRow otherwise."""
    if not isinstance(row, (list, tuple)) or len(row) > LONGEST_ROW:
        raise InvalidRow(-1)
    for index, status in enumerate(row):
        if not is_status(status):
            raise InvalidRow(index)


def row_to(befores, place):
    """Returns the row of 0 and 1 on which a place was found.

    `befores` tells for each place the one before it and the status, None for the start.
    """
    row = []
    while befores[place] is not None:
        place, status = befores[place]
        row.append(status)
    row.reverse()
    return row
