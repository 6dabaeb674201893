"""Wrong arguments, for tests of all functions."""

import copy

from shellways.errors import ShellError
from tests.trees import A

# Values that are no programs, with the path of their fault.
NO_PROGRAMS = (
    (None, ()), (((), A, A), ()), ([(), A], ()), (((), 3), (-1,)), (((3,), A), (0,)), (((), ("break", 1)), (-1,)),
    (((), ("and", A, ("exit", 256))), (-1, 1)), (((("f", A), ("f", A)), A), (1,)), (((), ([], "a")), (-1,)),
    (((), ("seq", (A,) * 3000)), ()), (((), ("run", "if")), (-1,)), (((("f", ("not", {})),), A), (0, 0)),
)

# Values of many kinds that are no paths.
NO_PATHS = (None, True, -1, 0, "", "a", b"a", [], [-1], [(-1,)], {}, {-1}, frozenset([-1]), (), (None,), (True,),
            (-2,), (-2, 0), (20,), (20, 0, 0), (10 ** 30,), (10 ** 30, 0), ("a",), ((-1,),), ([],), (-1, -1), (-1, 99), (-1, None), (-1, False), (-1, 0.5j),
            object(), ShellError("x"), range(1), (-1,) * 3, (-1, 0) * 40)

# Values of many kinds that are no lists or tuples of statuses, with the index of their fault.
NO_ROWS = ((None, -1), (3, -1), ("01", -1), ({0: 1}, -1), ({0}, -1), (range(2), -1), (b"01", -1), ([0] * 10001, -1),
           ([None], 0), ([0, True], 1), ([0, 1, -1], 2), ((0, "1"), 1), ([[0]], 0), ((0, 0, 1j), 2), ([False], 0))


def assert_error(test, error, value, function, *arguments):
    """The call raises just this error, with this value in its one attribute; nothing that is passed changes."""
    before = copy.deepcopy(arguments)
    with test.assertRaises(error) as caught:
        function(*arguments)
    test.assertIs(type(caught.exception), error)
    test.assertEqual(list(vars(caught.exception).values()), [value], arguments)
    test.assertEqual(repr(before)[:5000].split(" at 0x")[0], repr(arguments)[:5000].split(" at 0x")[0])
