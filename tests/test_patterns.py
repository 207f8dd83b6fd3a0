"""Stage 3: patterns."""

import random
import unittest
from itertools import product

from keywise.errors import InvalidNumber, InvalidPartial, InvalidRule
from keywise.patterns.patterns import gives, is_pattern, is_pattern_paper, pattern_rows, pattern_within, patterns
from keywise.patterns.patterns import rule_of_patterns
from tests import brute
from tests.support import ATMOST, EVEN, IMPLY, JUNK, NO_SIZES, ONE
from tests.support import brute_partials, brute_rows, brute_rules, check_accepted, check_errors, counted_rules, mutants
from tests.support import outcome, sample_rules
from tests.test_rules import FREE_1, FREE_7, LAST_7, NO_RULES

SMALL = brute_rules(1) + brute_rules(2) + brute_rules(3)
MIDDLE = SMALL[::3] + sample_rules(4, 60, 1)
LARGE = sample_rules(5, 6, 2) + sample_rules(6, 4, 3) + sample_rules(7, 4, 4) + [FREE_7, LAST_7]
NO_PARTIALS = (None, True, 0, "", (0, 1), [(0, 1)], ((0, 1), (0, 0)), ((1, 0), (0, 0)), ((0, 2),), ((0, True),),
               ((9, 0),), ((-1, 0),), ((0, 0, 1),), {(0, 1): 1}, ([0, 1],))


def papers_of(rule):
    """The texts of all pattern papers of the rule."""
    found = set()
    for pattern in brute.patterns(rule):
        fitting = [[row for row in rule[1] if brute.contains(row, part)] for part in brute.parts_without(pattern)]
        found.update(repr((pattern, rows)) for rows in product(*fitting))
    return found


class Patterns(unittest.TestCase):
    def test_against_all_partial_rows(self):
        for rule in SMALL + sample_rules(4, 150, 5):
            found = brute.patterns(rule)
            self.assertEqual(repr(patterns(rule)), repr(found))
            for partial in brute_partials(rule[0]):
                self.assertIs(is_pattern(rule, partial), partial in found, (rule, partial))

    def test_greater_rules_by_the_definition(self):
        for rule in LARGE + counted_rules(5)[::9] + counted_rules(7)[5::40]:
            found = patterns(rule)
            self.assertEqual(repr(found), repr(brute.patterns(rule)))
            self.assertTrue(all(len(pattern) > 1 for pattern in found))
            chance = random.Random(len(found))
            for pattern in list(found)[:10] + chance.sample(brute_partials(rule[0]), 20):
                self.assertIs(is_pattern(rule, pattern), pattern in found)
                self.assertIs(is_pattern(rule, pattern[1:]), pattern[1:] in found)

    def test_all_rows_by_their_number_of_ones(self):
        self.assertEqual(patterns(FREE_7), ())
        self.assertEqual(patterns(FREE_1), ())
        only = (7, tuple(row for row in brute_rows(7) if sum(row) == 3))
        self.assertEqual([len(patterns(only)), {len(pattern) for pattern in patterns(only)}], [35 + 21, {4, 5}])
        equal = (7, ((0,) * 7, (1,) * 7))
        self.assertEqual(patterns(equal), tuple(sorted(
            tuple(sorted(((key, 0), (other, 1)))) for key in range(7) for other in range(7) if key != other
        )))
        even = (7, tuple(row for row in brute_rows(7) if sum(row) % 2 == 0))
        self.assertEqual(patterns(even), tuple(tuple(enumerate(row)) for row in brute_rows(7) if sum(row) % 2))

    def test_is_pattern_with_wrong_values(self):
        for rule in (IMPLY, ONE, EVEN, LAST_7, FREE_1):
            right = {repr(pattern) for pattern in brute.patterns(rule)}
            values = JUNK + NO_PARTIALS + tuple(brute.patterns(rule))
            for pattern in brute.patterns(rule)[:3]:
                values += tuple(mutants(pattern))
            check_accepted(self, lambda value: is_pattern(rule, value), right, values)


class Within(unittest.TestCase):
    def test_against_all_partial_rows(self):
        for rule in MIDDLE + LARGE[:2]:
            partials = brute_partials(rule[0])
            for partial in partials if rule[0] < 4 else random.Random(rule[0]).sample(partials, 40):
                parts = [pattern for pattern in brute.patterns(rule) if set(pattern) <= set(partial)]
                expected = min(parts, key=lambda pattern: (len(pattern), pattern)) if parts else None
                self.assertEqual(repr(pattern_within(rule, partial)), repr(expected))
                self.assertIs(pattern_within(rule, partial) is None, brute.is_contained(rule, partial))

    def test_whole_rows(self):
        for rule in LARGE:
            chance = random.Random(3)
            for row in chance.sample(brute_rows(rule[0]), 12):
                found = pattern_within(rule, tuple(enumerate(row)))
                self.assertIs(found is None, row in rule[1])
                if found is not None:
                    fewest = [each for each in brute.patterns(rule) if brute.contains(row, each)]
                    self.assertEqual(found, min(fewest, key=lambda pattern: (len(pattern), pattern)))

    def test_the_fewest_literals_come_before_the_smallest(self):
        rule = rule_of_patterns(3, (((0, 0), (1, 0), (2, 0)), ((1, 0), (2, 1)), ((0, 1), (1, 1), (2, 0))))
        self.assertEqual(patterns(rule)[0], ((0, 0), (1, 0)))
        four = rule_of_patterns(5, (((0, 0), (1, 0), (2, 0)), ((3, 0), (4, 0)), ((2, 0), (4, 0))))
        row = tuple((key, 0) for key in range(5))
        self.assertEqual(patterns(four)[0], ((0, 0), (1, 0), (2, 0)))
        self.assertEqual(pattern_within(four, row), ((2, 0), (4, 0)))


class Papers(unittest.TestCase):
    def test_smallest_rows(self):
        for rule in SMALL + sample_rules(4, 40, 8) + LARGE:
            for pattern in brute.patterns(rule)[:12]:
                expected = tuple(
                    min(row for row in rule[1] if brute.contains(row, part)) for part in brute.parts_without(pattern)
                )
                self.assertEqual(repr(pattern_rows(rule, pattern)), repr(expected))
                self.assertIs(is_pattern_paper(rule, (pattern, expected)), True)

    def test_any_rows_that_fit(self):
        for rule in (IMPLY, ONE, EVEN, ATMOST) + tuple(sample_rules(3, 12, 9)) + tuple(sample_rules(4, 4, 10)):
            right = papers_of(rule)
            for pattern in brute.patterns(rule)[:6]:
                for rows in product(rule[1], repeat=len(pattern)) if len(pattern) < 4 else ():
                    paper = (pattern, rows)
                    self.assertIs(is_pattern_paper(rule, paper), repr(paper) in right)

    def test_other_partial_rows_have_no_paper(self):
        for rule in SMALL[::7]:
            for partial in brute_partials(rule[0]):
                fitting = [[row for row in rule[1] if brute.contains(row, part)] for part in brute.parts_without(partial)]
                for rows in list(product(*fitting))[:20]:
                    self.assertIs(is_pattern_paper(rule, (partial, rows)), partial in brute.patterns(rule))

    def test_one_part_changed(self):
        for rule in (IMPLY, ONE, ATMOST, EVEN):
            right = papers_of(rule)
            for pattern in brute.patterns(rule)[:2]:
                values = tuple(mutants((pattern, pattern_rows(rule, pattern))))
                check_accepted(self, lambda value: is_pattern_paper(rule, value), right, values + JUNK + NO_PARTIALS)

    def test_wrong_patterns(self):
        for rule in (ONE, IMPLY):
            wrong = [partial for partial in brute_partials(rule[0]) if partial not in brute.patterns(rule)]
            wrong += JUNK + NO_PARTIALS
            check_errors(self, pattern_rows, (rule, brute.patterns(rule)[0]), (
                (0, NO_RULES, InvalidRule), (1, wrong, InvalidPartial),
            ))


class Giving(unittest.TestCase):
    def check(self, rule, partials):
        size, rows = rule
        left = tuple(row for row in brute_rows(size) if not any(brute.contains(row, each) for each in partials))
        self.assertIs(gives(rule, partials), left == rows, (rule, partials))
        possible = left and all({row[key] for row in left} == {0, 1} for key in range(size))
        expected = (size, left) if possible else (InvalidRule, {})
        self.assertEqual(outcome(rule_of_patterns, size, partials), expected)

    def test_the_patterns_give_the_rule(self):
        for rule in MIDDLE + LARGE:
            self.assertIs(gives(rule, patterns(rule)), True)
            self.assertEqual(repr(rule_of_patterns(rule[0], patterns(rule))), repr(rule))

    def test_changed_patterns(self):
        for rule in [ONE, EVEN, IMPLY, ATMOST] + MIDDLE[::5] + LARGE[:4]:
            found = patterns(rule)
            chance = random.Random(len(found))
            for order in (found[::-1], found + found, tuple(chance.sample(found, len(found))) + found[:1]):
                self.assertIs(gives(rule, order), True)
                self.assertEqual(rule_of_patterns(rule[0], order), rule)
                self.check(rule, order)
            for at, pattern in enumerate(found[:8]):
                self.check(rule, found[:at] + found[at + 1:])
                for partial in self.near(rule[0], pattern):
                    self.check(rule, found + (partial,))
                    self.check(rule, found[:at] + (partial,) + found[at + 1:])
                longer = [partial for partial in self.near(rule[0], pattern) if len(partial) > len(pattern)]
                self.assertIs(gives(rule, tuple(longer) + found), True)

    def near(self, size, pattern):
        """Yield the partial rows with one literal more or less."""
        yield from brute.parts_without(pattern)
        keys = [key for key, _ in pattern]
        for literal in brute.literals(size):
            if literal[0] not in keys:
                yield tuple(sorted(pattern + (literal,)))

    def test_any_partial_rows(self):
        chance = random.Random(12)
        for rule in [IMPLY, ONE, ATMOST] + sample_rules(2, 4, 1) + sample_rules(4, 4, 1):
            partials = brute_partials(rule[0])
            for _ in range(60):
                self.check(rule, tuple(chance.sample(partials, chance.randrange(4))))
        self.check(IMPLY, ((),))
        self.check(FREE_1, ())
        self.check(FREE_7, ())


class Errors(unittest.TestCase):
    def test_wrong_rules(self):
        for call in (patterns, lambda rule: is_pattern(rule, ()), lambda rule: is_pattern_paper(rule, None)):
            check_errors(self, call, (ONE,), ((0, NO_RULES, InvalidRule),))

    def test_wrong_partial_rows(self):
        wrong = tuple(value for value in JUNK if value != ()) + NO_PARTIALS
        check_errors(self, pattern_within, (ONE, ()), ((0, NO_RULES, InvalidRule), (1, wrong, InvalidPartial)))
        tuples = tuple(value for value in wrong if value != ((),)) + tuple((value,) for value in wrong) + tuple((((0, 0), (1, 1)), value) for value in wrong)
        tuples += ([((0, 0), (1, 1))], {((0, 0), (1, 1)): 0}, (((3, 0), (4, 0)),))
        check_errors(self, gives, (ONE, ()), ((0, NO_RULES, InvalidRule), (1, tuples, InvalidPartial)))
        check_errors(self, rule_of_patterns, (3, ()), (
            (0, NO_SIZES, InvalidNumber), (1, tuples, InvalidPartial),
            (1, (((),), (((0, 0),),), (((0, 0), (1, 0)), ((0, 0), (1, 1)))), InvalidRule),
        ))

    def test_equal_calls(self):
        for _ in range(2):
            self.assertEqual(patterns(IMPLY), (((0, 1), (1, 0)),))
            self.assertEqual(pattern_rows(IMPLY, ((0, 1), (1, 0))), ((0, 0), (1, 1)))


if __name__ == "__main__":
    unittest.main()
