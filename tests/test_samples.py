"""Many programs, carried out in a second way that is written independently."""

import unittest

from shellways.errors import InvalidProgram
from shellways.programs import program_size
from shellways.shells import asked_paths, run
from tests.reference import walked
from tests.samples import Sampler


class Samples(unittest.TestCase):
    def check_sample(self, seed, size):
        sampler = Sampler(seed)
        program = sampler.program(size)
        try:
            program_size(program)
        except InvalidProgram as error:
            # Rounds and calls may unfold to too many trees.
            self.assertEqual(error.path, ())
            return None
        for length in (0, 1, 4, 15):
            row = sampler.row(length)
            told, outcome = walked(program, row)
            self.assertEqual(run(program, row), ([name for name, _ in told], outcome), program)
            self.assertEqual(asked_paths(program, row), [path for _, path in told], program)
        return outcome[0]

    def test_samples(self):
        found = {}
        for seed in range(3000):
            word = self.check_sample(seed, (3, 6, 12, 25, 50)[seed % 5])
            found[word] = found.get(word, 0) + 1
        for word in ("asks", "ended", "silent"):
            self.assertGreater(found[word], 50)
        self.assertLess(found.get(None, 0), 50)


if __name__ == "__main__":
    unittest.main()
