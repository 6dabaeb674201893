"""Classes of states that do the same, against a plain way to find them."""

import random
import unittest

from shellways.futures import classes_of


def plain_classes(marks, following):
    """States are told apart by their marks, then by what follows, again and again."""
    classes = list(marks)
    for _ in marks:
        keys = [(classes[state], tuple(classes[other] for other in following[state])) for state in range(len(marks))]
        numbers = {key: number for number, key in enumerate(dict.fromkeys(keys))}
        classes = [numbers[key] for key in keys]
    return classes


class Classes(unittest.TestCase):
    def check(self, marks, following):
        found = classes_of(marks, following)
        expected = plain_classes(marks, following)
        pairs = set(zip(found, expected))
        self.assertEqual([len(pairs)] * 2, [len(set(found)), len(set(expected))], (marks, following))

    def test_random_automata(self):
        chance = random.Random(21)
        for size in range(1, 60):
            for count in range(12):
                marks = [chance.choice(("asks", "asks", "asks", "well", "badly")[:1 + count % 5]) for _ in range(size)]
                near = chance.choice((2, 5, size))
                following = [() if mark in ("well", "badly") else
                             tuple(min(size - 1, max(0, state + chance.randrange(-near, near + 1))) for _ in range(3))
                             for state, mark in enumerate(marks)]
                self.check(marks, following)

    def test_long_ways(self):
        """All states of a chain are told apart, one after the other; those of a round that only asks are not."""
        for size in (2, 3, 40, 300):
            chain = [(state + 1,) * 3 for state in range(size - 1)] + [()]
            self.check(["asks"] * (size - 1) + ["end"], chain)
            self.check(["asks"] * size, [((state + 1) % size,) * 3 for state in range(size)])
            self.check(["asks"] * (size - 1) + ["b"], [((state + 1) % size, state, 0) for state in range(size)])
            self.check(["asks"] * (size - 1) + ["b"], [(0, (state + 1) % size, state) for state in range(size)])

    def test_blocks_that_wait_while_they_are_split(self):
        """With one block too few looked at again, states of these would not be told apart."""
        self.check([9, 0, 0, 0, 0, 0, 0, 0], [(), (0, 5, 1), (3, 4, 6), (2, 5, 2), (0, 5, 7), (6, 7, 6), (0, 1, 6), (2, 5, 4)])
        self.check([1, 0, 1, 0, 1, 0], [(3, 3, 3), (3, 4, 3), (2, 2, 3), (2, 5, 1), (3, 5, 2), (1, 0, 0)])
        self.check([1, 0, 9, 9, 1, 0, 0, 1], [(1, 0, 2), (6, 5, 6), (), (), (6, 5, 5), (7, 7, 6), (7, 7, 0), (3, 0, 3)])

    def test_two_alike_parts(self):
        first = [(1, 2, 0), (2, 2, 1), (0, 1, 1)]
        second = [tuple(3 + other for other in row) for row in first]
        self.check(["x", "x", "y"] * 2, first + second)
        self.assertEqual(len(set(classes_of(["x", "x", "y"] * 2, first + second))), len(set(classes_of(["x", "x", "y"], first))))


if __name__ == "__main__":
    unittest.main()
