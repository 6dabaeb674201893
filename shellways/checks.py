"""The check of a program: one pass over its trees in reading order.

Nothing is made for a single tree, so that the check takes little time. A tree
that is as described has an unfolded size of at least 1; the function that
looks at a tree returns 0 if it is not as described.
"""

from shellways.errors import InvalidProgram
from shellways.kinds import is_integer, is_integer_within, is_name

MOST_FUNCTIONS = 20
MOST_TREES = 3000
MOST_VARIABLES = 40
MOST_UNFOLDED = 3000
LONGEST_PATH = 60
GREATEST_NUMBER = 255
MOST_ROUNDS = 1000


class Check:
    """What is known of a program as far as it was looked at."""

    def __init__(self):
        self.trees = 0
        self.commands = {}
        self.variables = {}
        # The unfolded sizes of main, and of the functions by their names.
        self.unfolded = 0
        self.functions = {}
        # The path of the tree whose parts are looked at.
        self.places = []
        # How many loops a break may leave there, and whether return may stand there.
        self.loops = 0
        self.returns = False


def checked(program):
    """Returns what is known of a program; raises InvalidProgram if the value is none."""
    if not is_outline(program):
        raise InvalidProgram(())
    functions, main = program
    check = Check()
    check.returns = True
    number = 0
    for entry in functions:
        if not is_entry(entry, check.functions):
            raise InvalidProgram((number,))
        name, body = entry
        # A function that nothing calls may be of any size. Whatever is larger
        # than the limit counts as one more, so that numbers stay small.
        check.functions[name] = min(size_of_all(check, (body,), number), MOST_UNFOLDED + 1)
        number += 1
    check.returns = False
    check.unfolded = size_of_all(check, (main,), -1)
    if len(check.variables) > MOST_VARIABLES or check.unfolded > MOST_UNFOLDED:
        raise InvalidProgram(())
    return check


def is_outline(program):
    if not isinstance(program, tuple) or len(program) != 2:
        return False
    return isinstance(program[0], tuple) and len(program[0]) <= MOST_FUNCTIONS


def is_entry(entry, functions):
    """Returns whether the entry of a function is as described, its body aside."""
    if not isinstance(entry, tuple) or len(entry) != 2:
        return False
    return is_name(entry[0]) and entry[0] not in functions


def size_of_all(check, trees, place):
    """Returns the sum of the unfolded sizes of trees side by side, the first one at this place."""
    size = 0
    for tree in trees:
        if check.trees == MOST_TREES:
            raise InvalidProgram(())
        check.trees += 1
        inside = 0
        # Only strings are asked for in the table: other values may not be hashable.
        if isinstance(tree, tuple) and tree and isinstance(tree[0], str) and tree[0] in SIZES:
            action = SIZES[tree[0]]
            inside = action(check, tree, place)
        if inside == 0:
            raise InvalidProgram((*check.places, place))
        size += inside
        place += 1
    return size


def size_inside(check, parts, place):
    """Returns the sum of the unfolded sizes of the parts of the tree at this place.

    The length of paths bounds how deep this function calls itself.
    """
    check.places.append(place)
    if len(check.places) == LONGEST_PATH:
        raise InvalidProgram(() if check.trees == MOST_TREES else (*check.places, 0))
    size = size_of_all(check, parts, 0)
    check.places.pop()
    return size


def size_behind_barrier(check, parts, place):
    """The same for a tree that hides the loops and the function around it."""
    loops = check.loops
    returns = check.returns
    check.loops = 0
    check.returns = False
    size = size_inside(check, parts, place)
    check.loops = loops
    check.returns = returns
    return size


def is_new_name(names, value):
    """Returns whether the value is a name, and notes it."""
    if isinstance(value, str) and value in names:
        return True
    if not is_name(value):
        return False
    names[value] = True
    return True


def has_parts(tree):
    """Returns whether the one entry of the tree is a tuple of at least two parts."""
    return len(tree) == 2 and isinstance(tree[1], tuple) and len(tree[1]) >= 2


# The sizes of trees, by their words.


def size_of_run(check, tree, place):
    return 1 if len(tree) == 2 and is_new_name(check.commands, tree[1]) else 0


def size_of_status(check, tree, place):
    return 1 if len(tree) == 2 and is_integer_within(tree[1], 0, GREATEST_NUMBER) else 0


def size_with_variable(check, tree, place):
    return 1 if len(tree) == 2 and is_new_name(check.variables, tree[1]) else 0


def size_of_put(check, tree, place):
    if len(tree) != 3 or not is_integer_within(tree[2], 0, GREATEST_NUMBER):
        return 0
    return 1 if is_new_name(check.variables, tree[1]) else 0


def size_of_option(check, tree, place):
    if len(tree) != 3 or not isinstance(tree[1], str) or not isinstance(tree[2], bool):
        return 0
    return 1 if tree[1] == "fail" or tree[1] == "pipes" else 0


def size_of_trap(check, tree, place):
    if len(tree) != 3 or not isinstance(tree[1], str) or tree[1] not in ("end", "fail"):
        return 0
    return 1 if tree[2] is None else 1 + size_behind_barrier(check, tree[2:], place)


def size_of_seq(check, tree, place):
    return 1 + size_inside(check, tree[1], place) if has_parts(tree) else 0


def size_of_pipe(check, tree, place):
    return 1 + size_behind_barrier(check, tree[1], place) if has_parts(tree) else 0


def size_of_and_or(check, tree, place):
    return 1 + size_inside(check, tree[1:], place) if len(tree) == 3 else 0


def size_of_not(check, tree, place):
    return 1 + size_inside(check, tree[1:], place) if len(tree) == 2 else 0


def size_of_sub(check, tree, place):
    return 1 + size_behind_barrier(check, tree[1:], place) if len(tree) == 2 else 0


def size_of_if(check, tree, place):
    if len(tree) != 4:
        return 0
    return 1 + size_inside(check, tree[1:3] if tree[3] is None else tree[1:], place)


def size_of_while(check, tree, place):
    if len(tree) != 3:
        return 0
    check.loops += 1
    size = size_inside(check, tree[1:], place)
    check.loops -= 1
    return 1 + size


def size_of_times(check, tree, place):
    if len(tree) != 3 or not is_integer_within(tree[1], 0, MOST_ROUNDS):
        return 0
    check.loops += 1
    size = size_inside(check, tree[2:], place)
    check.loops -= 1
    return 1 + tree[1] * size


def size_of_jump(check, tree, place):
    """The size of a break or next."""
    return 1 if len(tree) == 2 and is_integer(tree[1]) and 1 <= tree[1] <= check.loops else 0


def size_of_call(check, tree, place):
    if len(tree) != 2 or not isinstance(tree[1], str) or tree[1] not in check.functions:
        return 0
    return 1 + check.functions[tree[1]]


def size_of_return(check, tree, place):
    return size_of_exit(check, tree, place) if check.returns else 0


def size_of_exit(check, tree, place):
    if len(tree) != 2:
        return 0
    return 1 if tree[1] is None or is_integer_within(tree[1], 0, GREATEST_NUMBER) else 0


SIZES = {
    "run": size_of_run,
    "status": size_of_status,
    "give": size_with_variable,
    "zero": size_with_variable,
    "keep": size_with_variable,
    "put": size_of_put,
    "option": size_of_option,
    "trap": size_of_trap,
    "seq": size_of_seq,
    "and": size_of_and_or,
    "or": size_of_and_or,
    "not": size_of_not,
    "if": size_of_if,
    "while": size_of_while,
    "until": size_of_while,
    "times": size_of_times,
    "break": size_of_jump,
    "next": size_of_jump,
    "call": size_of_call,
    "return": size_of_return,
    "exit": size_of_exit,
    "sub": size_of_sub,
    "pipe": size_of_pipe,
}
