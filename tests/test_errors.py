import unittest

from shellways import errors

NAMES = {
    "InvalidProgram": "path", "InvalidText": "place", "InvalidRow": "index",
    "InvalidName": "name", "InvalidPath": "path", "InvalidNumber": "name",
    "InvalidMachine": "index", "InvalidPaper": "index", "InvalidChances": "name",
    "InvalidLog": "index", "Mismatch": "name", "Ended": "status", "TooLarge": "limit",
}

VALUES = (0, -1, 10 ** 6000, -(10 ** 6000), True, False, None, "", "text", "%s %d {x}", (), (-1, 0),
          ("a", (1, [2])), [], [[1], {}], {}, {"a": [1]}, {1, 2}, frozenset((1,)), b"bytes",
          bytearray(b"x"), 1j, range(3), int, len, Ellipsis, NotImplemented, ValueError("x"),
          slice(1), memoryview(b"x"), object())


class Errors(unittest.TestCase):
    def classes(self):
        return [(getattr(errors, name), keyword) for name, keyword in NAMES.items()]

    def test_base(self):
        self.assertEqual(errors.ShellError.__bases__, (ValueError,))
        self.assertIsInstance(errors.ShellError("text"), ValueError)

    def test_thirteen_direct_subclasses(self):
        self.assertEqual(len(NAMES), 13)
        found = [name for name, value in vars(errors).items()
                 if isinstance(value, type) and value is not errors.ShellError]
        self.assertEqual(sorted(found), sorted(NAMES))
        for kind, _ in self.classes():
            self.assertEqual(kind.__bases__, (errors.ShellError,))
            self.assertEqual(kind.__module__, "shellways.errors")
            self.assertIn("__init__", vars(kind))

    def test_each_is_none_of_the_others(self):
        for kind, _ in self.classes():
            error = kind(1)
            self.assertIsInstance(error, errors.ShellError)
            self.assertIsInstance(error, ValueError)
            for other, _ in self.classes():
                self.assertIs(isinstance(error, other), other is kind)

    def test_holds_exactly_the_value(self):
        for kind, keyword in self.classes():
            for value in VALUES:
                for error in (kind(value), kind(**{keyword: value})):
                    self.assertIs(getattr(error, keyword), value)
                    self.assertEqual(list(vars(error)), [keyword])
                    self.assertIsInstance(str(error), str)
                    self.assertIsInstance(repr(error), str)

    def test_value_that_holds_itself(self):
        value = []
        value.append(value)
        deep = ()
        for _ in range(5000):
            deep = (deep,)
        for kind, keyword in self.classes():
            self.assertIs(getattr(kind(value), keyword), value)
            self.assertIs(getattr(kind(deep), keyword), deep)
            str(kind(deep))

    def test_takes_one_value(self):
        for kind, _ in self.classes():
            with self.assertRaises(TypeError):
                kind()
            with self.assertRaises(TypeError):
                kind(1, 2)

    def test_can_be_raised(self):
        for kind, keyword in self.classes():
            with self.assertRaises(kind) as caught:
                raise kind((1, 2))
            self.assertEqual(getattr(caught.exception, keyword), (1, 2))


if __name__ == "__main__":
    unittest.main()
