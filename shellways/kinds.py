"""Which values are integers, statuses and names."""

LONGEST_NAME = 12

LETTERS = "abcdefghijklmnopqrstuvwxyz"

# The words that are no names.
RESERVED = {
    "def": True, "call": True, "status": True, "give": True, "zero": True, "keep": True,
    "put": True, "option": True, "trap": True, "on": True, "off": True, "if": True, "then": True,
    "else": True, "while": True, "until": True, "times": True, "do": True, "end": True,
    "break": True, "next": True, "return": True, "exit": True, "fail": True, "pipes": True,
}


def is_integer(value):
    """Returns whether the value is an int that is not a bool."""
    return isinstance(value, int) and not isinstance(value, bool)


def is_integer_within(value, least, most):
    return isinstance(value, int) and not isinstance(value, bool) and least <= value <= most


def is_status(value):
    return isinstance(value, int) and not isinstance(value, bool) and value >= 0


def is_list_of(value, many, is_entry):
    """Returns whether the value is a list of so many entries that are as asked for."""
    if not isinstance(value, list) or len(value) != many:
        return False
    return all([is_entry(entry) for entry in value])


def is_name(value):
    # The length comes first, so that a long string is not read to its end.
    if not isinstance(value, str) or len(value) > LONGEST_NAME:
        return False
    return value.isascii() and value.isalpha() and value.islower() and value not in RESERVED


def new_names(taken, many):
    """Returns so many names, a few hundred at most, that are none of those taken."""
    candidates = list(LETTERS) + [first + second for first in LETTERS for second in LETTERS]
    return [name for name in candidates if is_name(name) and name not in taken][:many]
