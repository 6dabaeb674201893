"""Rows of statuses."""

from shellways.errors import InvalidRow
from shellways.kinds import is_status

LONGEST_ROW = 10000


def check_row(row):
    """Returns None if the value is a row; raises InvalidRow otherwise."""
    if not isinstance(row, (list, tuple)) or len(row) > LONGEST_ROW:
        raise InvalidRow(-1)
    for index, status in enumerate(row):
        if not is_status(status):
            raise InvalidRow(index)
