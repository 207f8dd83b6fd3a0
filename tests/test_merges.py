"""What policies need to go through all merges of many rows."""

import random
import unittest
from itertools import product

from keywise.policies.merges import ZEROS, image, members, merges_into, results_of, set_of
from tests.support import random_function


def merged(functions, rows):
    """Merge rows that are written as numbers, by the definition."""
    found = 0
    for key, function in enumerate(functions):
        bits = "".join(str((row >> key) & 1) for row in rows)
        found |= function[int(bits, 2)] << key
    return found


class Merges(unittest.TestCase):
    def test_zeros(self):
        for key in range(7):
            self.assertEqual(members(ZEROS[key]), [row for row in range(128) if not (row >> key) & 1])

    def test_sets(self):
        for rows in ([], [0], [5, 2, 127], list(range(128))):
            self.assertEqual(members(set_of(rows)), sorted(rows))

    def test_images(self):
        chance = random.Random(1)
        for size in range(1, 8):
            for _ in range(40):
                low, high = chance.randrange(1 << size), chance.randrange(1 << size)
                rows = [row for row in range(1 << size) if chance.random() < 0.4]
                expected = {(low & ~row) | (high & row) for row in rows}
                self.assertEqual(members(image(low, high, size, set_of(rows))), sorted(expected))

    def test_results(self):
        self.assertEqual(results_of(((0, 0, 0, 1), (0, 1, 0, 1), (0, 1, 1, 1))), (0, 6, 4, 7))

    def test_against_all_merges(self):
        chance = random.Random(2)
        for size in range(1, 8):
            for n, most in ((2, 40), (3, 12), (4, 6), (5, 4), (6, 3)):
                functions = tuple(random_function(chance, n) for _ in range(size))
                options = []
                # Sometimes one replica has several rows to choose from, and sometimes none.
                few = chance.randrange(4)
                for at in range(n):
                    most = 2 if few == 0 or (few == 1 and at != n // 2) else most
                    options.append(chance.sample(range(1 << size), min(chance.randrange(1, most), 1 << size)))
                wanted = [row for row in range(1 << size) if chance.random() < 0.7]
                every = {merged(functions, rows) for rows in product(*options)}
                found = merges_into(functions, options, set_of(wanted))
                self.assertEqual(set(found), every & set(wanted))
                for row, sources in found.items():
                    self.assertEqual(merged(functions, sources), row)
                    self.assertTrue(len(sources) == n and all(source in rows for source, rows in zip(sources, options)))


if __name__ == "__main__":
    unittest.main()
