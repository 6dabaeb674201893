"""Which values are integers, statuses and names."""

LONGEST_NAME = 12

RESERVED = (
    "def", "call", "status", "give", "zero", "keep", "put", "option", "trap", "on", "off",
    "if", "then", "else", "while", "until", "times", "do", "end", "break", "next",
    "return", "exit", "fail", "pipes",
)


def is_integer(value):
    """Returns whether the value is an int that is not a bool."""
    return isinstance(value, int) and not isinstance(value, bool)


def is_integer_within(value, least, most):
    return is_integer(value) and least <= value <= most


def is_status(value):
    return is_integer(value) and value >= 0


def is_name(value):
    # The length comes first, so that a long string is not read to its end.
    if not isinstance(value, str) or not 1 <= len(value) <= LONGEST_NAME:
        return False
    return all(["a" <= letter <= "z" for letter in value]) and value not in RESERVED
