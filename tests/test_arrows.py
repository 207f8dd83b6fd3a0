"""Stage 5: arrows."""

import random
import unittest
from itertools import product

from keywise.choices.arrows import arrow_pattern, arrows, closed_walk, components, is_closed_walk, is_walk, reached
from keywise.choices.arrows import walk
from keywise.errors import InvalidPartial, InvalidRule
from tests import brute
from tests.support import EVEN, IMPLY, JUNK, ONE
from tests.support import brute_rows, brute_rules, check_errors, counted_rules, mutants, sample_rules
from tests.test_rules import FREE_1, FREE_7, LAST_7, NO_RULES

RULES = brute_rules(1) + brute_rules(2) + brute_rules(3) + sample_rules(4, 60, 21)
LARGE = sample_rules(5, 5, 22) + sample_rules(7, 4, 23) + counted_rules(7)[4::60] + [FREE_7, LAST_7]
EQUAL = (3, ((0, 0, 0), (1, 1, 1)))
CYCLES = (4, ((0, 0, 0, 0), (0, 0, 1, 1), (1, 1, 1, 1)))
NO_LITERALS = tuple(value for value in JUNK) + (
    (3, 0), (0, 2), (-1, 0), (0, True), (False, 0), (0, 1, 0), [0, 1], (0,), ((0, 1),), "01", (None, 0), (0, None),
)


def shortest_walks(rule, first, last):
    """All tuples of literals of the walks with the fewest arrows."""
    steps = brute.distances(rule)
    if (first, last) not in steps:
        return []
    paths = [(first,)]
    for _ in range(steps[first, last]):
        paths = [path + (after,) for path in paths for (here, after) in brute.arrows(rule) if here == path[-1]]
        paths = [path for path in paths if steps.get((path[-1], last), 99) == steps[first, last] - len(path) + 1]
    return paths


def component_order(rule):
    """The components in their order, one after another as the document says."""
    steps = brute.distances(rule)
    literals = brute.literals(rule[0])
    left = {tuple(y for y in literals if (x, y) in steps and (y, x) in steps) for x in literals}
    found = []
    while left:
        free = [each for each in left if not any(
            a in other and b in each for other in left if other != each for a, b in brute.arrows(rule)
        )]
        found.append(min(free))
        left.remove(found[-1])
    return tuple(found)


class Arrows(unittest.TestCase):
    def test_against_the_definition(self):
        for rule in RULES + LARGE:
            expected = brute.arrows(rule)
            self.assertEqual(repr(arrows(rule)), repr(tuple(sorted(expected))))
            for first, second in arrows(rule):
                self.assertIn((brute.opposite(second), brute.opposite(first)), expected)

    def test_all_rules_of_three_keys_one_by_one(self):
        for rule in brute_rules(3):
            expected = set()
            for first, second in product(brute.literals(3), repeat=2):
                for pattern in brute.patterns(rule):
                    if first[0] != second[0] and first in pattern and (second[0], 1 - second[1]) in pattern:
                        expected.add((first, second))
            self.assertEqual(arrows(rule), tuple(sorted(expected)))

    def test_patterns_of_arrows(self):
        for rule in RULES[::2] + LARGE:
            for first, second in product(brute.literals(rule[0]), repeat=2):
                shown = brute.arrows(rule).get((first, second), [])
                expected = min(shown, key=lambda pattern: (len(pattern), pattern)) if shown else None
                if rule[0] < 4 or random.Random(repr((first, second))).randrange(9) == 0:
                    self.assertEqual(repr(arrow_pattern(rule, first, second)), repr(expected))

    def test_no_arrow_within_a_key(self):
        for key, first, second in product(range(3), (0, 1), (0, 1)):
            self.assertIsNone(arrow_pattern(ONE, (key, first), (key, second)))


class Reached(unittest.TestCase):
    def test_against_the_distances(self):
        for rule in RULES[::3] + LARGE:
            chance = random.Random(7)
            literals = brute.literals(rule[0])
            for many in (0, 1, 1, 2, 3):
                given = [chance.choice(literals) for _ in range(many)]
                expected = sorted({last for first, last in brute.distances(rule) if first in given})
                self.assertEqual(repr(reached(rule, *given)), repr(tuple(expected)))
                self.assertEqual(reached(rule, *given[::-1], *given), tuple(expected))

    def test_all_literals_of_small_rules(self):
        for rule in RULES[:60]:
            for literal in brute.literals(rule[0]):
                expected = tuple(sorted(last for first, last in brute.distances(rule) if first == literal))
                self.assertEqual(reached(rule, literal), expected)


class Components(unittest.TestCase):
    def test_their_order(self):
        for rule in RULES + LARGE:
            self.assertEqual(repr(components(rule)), repr(component_order(rule)))

    def test_known_ones(self):
        self.assertEqual(components(FREE_1), (((0, 0),), ((0, 1),)))
        self.assertEqual(components(EQUAL), (((0, 0), (1, 0), (2, 0)), ((0, 1), (1, 1), (2, 1))))
        self.assertEqual(components(FREE_7), tuple((literal,) for literal in brute.literals(7)))
        self.assertEqual(components(CYCLES),
                         (((0, 1), (1, 1)), ((2, 0), (3, 0)), ((0, 0), (1, 0)), ((2, 1), (3, 1))))


class Walks(unittest.TestCase):
    def test_fewest_arrows_and_smallest_literals(self):
        for rule in RULES[::2] + LARGE:
            pairs = list(product(brute.literals(rule[0]), repeat=2))
            for first, last in pairs if rule[0] < 4 else random.Random(rule[0]).sample(pairs, 8):
                paths = shortest_walks(rule, first, last)
                found = walk(rule, first, last)
                if not paths:
                    self.assertIsNone(found)
                    continue
                path = min(paths)
                patterns = [min(brute.arrows(rule)[arrow], key=lambda pattern: (len(pattern), pattern))
                            for arrow in zip(path, path[1:])]
                self.assertEqual(repr(found), repr(tuple(zip(path, patterns + [None]))))
                self.assertIs(is_walk(rule, found), True)

    def test_no_arrow(self):
        for rule in (IMPLY, ONE, FREE_7):
            for literal in brute.literals(rule[0]):
                self.assertEqual(walk(rule, literal, literal), ((literal, None),))

    def test_any_pattern_that_shows_the_arrow(self):
        for rule in RULES[20::9] + LARGE[:3]:
            known = brute.patterns(rule)[:8]
            for first, second in product(brute.literals(rule[0]), repeat=2):
                for pattern in known:
                    value = ((first, pattern), (second, None))
                    self.assertIs(is_walk(rule, value), pattern in brute.arrows(rule).get((first, second), []))

    def test_walks_of_any_length(self):
        chance = random.Random(31)
        for rule in (ONE, EVEN, IMPLY, EQUAL, LARGE[1]):
            for many in (1, 2, 3, 10, 400):
                here, value = chance.choice(brute.literals(rule[0])), []
                for _ in range(many):
                    after = [arrow[1] for arrow in brute.arrows(rule) if arrow[0] == here]
                    if not after:
                        break
                    new = chance.choice(after)
                    value.append((here, chance.choice(brute.arrows(rule)[here, new])))
                    here = new
                whole = tuple(value) + ((here, None),)
                self.assertIs(is_walk(rule, whole), True)
                self.assertIs(is_walk(rule, whole[:-1]), False)
                self.assertIs(is_walk(rule, whole + whole), False)
                self.assertIs(is_walk(rule, whole[1:]), len(whole) > 1)

    def test_one_part_changed(self):
        for rule, ends in ((ONE, ((0, 1), (0, 0))), (IMPLY, ((0, 1), (1, 1))), (EVEN, ((0, 0), (0, 0)))):
            values = tuple(mutants(walk(rule, *ends))) + JUNK + ((), ((ends[0], None),), ((ends[0], ()),))
            there, back = walk(rule, *ends), walk(rule, *ends[::-1]) or ()
            values += (there, back, there[:-1] + back, there[:-1] + back[:-1] + there)
            for value in values:
                self.assertIs(is_walk(rule, value), brute.is_walk(rule, value), value)
                self.assertIs(is_closed_walk(rule, value), brute.is_closed_walk(rule, value), value)

    def test_closed_walks(self):
        for rule in RULES + LARGE:
            found = closed_walk(rule)
            self.assertIs(found is None, len(component_order(rule)) > 1)
            if found is not None:
                self.assertTrue(brute.is_closed_walk(rule, found) and is_walk(rule, found))
                self.assertEqual({literal for literal, _ in found}, set(brute.literals(rule[0])))
                self.assertLessEqual(len(found) - 1, 4 * rule[0] * rule[0])
                self.assertEqual(repr(closed_walk(rule)), repr(found))

    def test_closed_walks_of_great_rules(self):
        for size in range(3, 8):
            rule = (size, tuple(row for row in brute_rows(size) if sum(row) == 1))
            found = closed_walk(rule)
            self.assertTrue(brute.is_closed_walk(rule, found))
            self.assertEqual({literal for literal, _ in found}, set(brute.literals(size)))
            self.assertLessEqual(len(found) - 1, 4 * size * size)


class Errors(unittest.TestCase):
    def test_wrong_rules(self):
        for call in (arrows, components, closed_walk, reached, lambda rule: is_walk(rule, None)):
            check_errors(self, call, (ONE,), ((0, NO_RULES, InvalidRule),))

    def test_wrong_literals(self):
        for call in (arrow_pattern, walk, reached):
            check_errors(self, call, (ONE, (0, 1), (1, 0)), (
                (0, NO_RULES, InvalidRule), (1, NO_LITERALS, InvalidPartial), (2, NO_LITERALS, InvalidPartial),
            ))
        check_errors(self, reached, (IMPLY, (0, 1)), ((1, NO_LITERALS + ((2, 0),), InvalidPartial),))


if __name__ == "__main__":
    unittest.main()
