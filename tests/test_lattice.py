"""Stage 9: sides."""

import random
import unittest
from itertools import permutations, product

from keywise.choices.choices import Choice, wins_of
from keywise.errors import InvalidNumber, InvalidPolicy, InvalidRow, InvalidRule
from keywise.lattice.lattice import Sides, all_sides, count_sides, fold, forced_sides, is_sides_paper, sides_paper
from keywise.levels.thresholds import Thresholds
from keywise.parity.parity import Parity
from keywise.policies.policies import Copy, Policy, Table
from tests import brute
from tests.support import ATMOST, EVEN, IMPLY, JUNK, ONE, POLICIES
from tests.support import brute_rows, brute_rules, check_errors, counted_rules, mutants, sample_rules
from tests.test_arrows import CYCLES, EQUAL
from tests.test_policies import NO_NUMBERS, rows_for
from tests.test_rules import FREE_1, FREE_7, LAST_7, NO_RULES

SMALL = brute_rules(1) + brute_rules(2) + brute_rules(3)[::2] + [ONE, EVEN, ATMOST, EQUAL, CYCLES]
MIDDLE = sample_rules(4, 30, 81) + sample_rules(5, 8, 82)
LARGE = sample_rules(6, 4, 83) + sample_rules(7, 5, 84) + counted_rules(7)[4::40] + [LAST_7]


def sides_by_patterns(rule):
    """The sides that are not those of two literals of one pattern."""
    return [sides for sides in brute_rows(rule[0]) if all(
        sum(sides[key] == bit for key, bit in pattern) < 2 for pattern in brute.patterns(rule)
    )]


def is_paper(rule, value):
    if type(value) is not tuple or len(value) != 2 or type(value[0]) is not str:
        return False
    word, shown = value
    if word == "sides":
        return repr(shown) in {repr(sides) for sides in sides_by_patterns(rule)}
    if word != "walk" or not brute.is_closed_walk(rule, shown):
        return False
    passed = {literal for literal, _ in shown}
    return any(brute.opposite(literal) in passed for literal in passed)


class Policies(unittest.TestCase):
    def test_least_and_greatest_bits(self):
        for n in range(2, 7):
            policy = Sides(n, (0, 1))
            for at, bits in enumerate(product((0, 1), repeat=n)):
                self.assertEqual(repr((policy[0][at], policy[1][at])), repr((min(bits), max(bits))))
            for sides in brute_rows(3) + brute_rows(7)[::25]:
                policy = Sides(n, sides)
                self.assertEqual(repr((policy.sides, policy.replicas)), repr((sides, n)))
                for rows in rows_for(policy, 4):
                    expected = tuple((max if side else min)(bits) for side, bits in zip(sides, zip(*rows)))
                    self.assertEqual(repr(policy(rows)), repr(expected))

    def test_as_other_policies(self):
        for n in range(2, 7):
            for sides in brute_rows(3):
                policy = Sides(n, sides)
                numbers = tuple(1 if side else n for side in sides)
                levels = tuple((0, 1) if side else (1, 1) for side in sides)
                self.assertTrue(policy == Thresholds(n, numbers) and Thresholds(n, numbers) == policy)
                self.assertTrue(policy == Table.of(policy) and Table.of(policy) == policy)
                self.assertEqual(Thresholds(n, numbers).levels, levels)
                choice = Choice(3, tuple(enumerate(sides)))
                self.assertIs(policy == choice, n == 2)
                self.assertIs(choice == policy, n == 2)
                self.assertFalse(policy == Sides(n, tuple(1 - side for side in sides)))
                self.assertIsNone(policy.copied())
        self.assertEqual(wins_of(Sides(2, (0, 1, 1))), ((0, 0), (1, 1), (2, 1)))

    def test_texts(self):
        self.assertEqual(str(Sides(3, (0, 1))), "sides of 3: min max")
        self.assertEqual(str(Sides(6, (1,) * 7)), "sides of 6: max max max max max max max")

    def test_sides_cannot_be_assigned(self):
        policy = Sides(3, (0, 1))
        with self.assertRaises(AttributeError):
            policy.sides = (1, 1)
        self.assertEqual(policy.sides, (0, 1))

    def test_keeping_against_all_merges(self):
        for rule in SMALL:
            for sides in brute_rows(rule[0]):
                for n in (2, 3, 4) if rule[0] < 3 else (2, 3):
                    policy = Sides(n, sides)
                    broken = brute.broken(policy, rule)
                    told = policy.broken_merge(rule)
                    self.assertIs(policy.keeps(rule), not broken)
                    self.assertTrue(told in broken if broken else told is None)

    def test_keeping_great_rules(self):
        for rule in MIDDLE + LARGE + [FREE_7]:
            fitting = sides_by_patterns(rule)
            chance = random.Random(1)
            for sides in fitting[:5] + chance.sample(brute_rows(rule[0]), 5):
                for n in (2, 6):
                    told = Sides(n, sides).broken_merge(rule)
                    self.assertIs(Sides(n, sides).keeps(rule), sides in fitting)
                    self.assertTrue(
                        told is None if sides in fitting else brute.is_broken_merge(Sides(n, sides), rule, told)
                    )

    def test_symmetric_policies_are_those_of_sides(self):
        for functions in product(brute.functions(2), repeat=2):
            table = Table(functions)
            rows = brute_rows(2)
            symmetric = all(table((a, b)) == table((b, a)) for a in rows for b in rows)
            self.assertIs(symmetric, any(table == Sides(2, sides) for sides in rows))


class Finding(unittest.TestCase):
    def test_all_sides_one_by_one(self):
        for rule in SMALL + MIDDLE[:20]:
            expected = brute.all_sides(rule)
            self.assertEqual(sides_by_patterns(rule), expected)
            self.check(rule, expected)

    def test_great_rules(self):
        for rule in MIDDLE[20:] + LARGE:
            self.check(rule, sides_by_patterns(rule))
        self.check(FREE_7, brute_rows(7))
        self.check(FREE_1, [(0,), (1,)])

    def check(self, rule, expected):
        self.assertEqual(repr(list(all_sides(rule))), repr(expected))
        self.assertEqual(repr(count_sides(rule)), repr(len(expected)))
        forced = {key: bits[0] for key, bits in enumerate(zip(*expected)) if len(set(bits)) == 1}
        self.assertEqual(repr(forced_sides(rule)), repr(forced if expected else None))

    def test_forced_sides_have_ascending_keys(self):
        seen = 0
        for rule in SMALL + MIDDLE + LARGE:
            found = forced_sides(rule)
            if found:
                seen += len(found) > 1
                self.assertEqual(list(found), sorted(found))
                found.clear()
                self.assertTrue(forced_sides(rule))
        self.assertGreater(seen, 3)

    def test_two_generators_at_once(self):
        first, second = all_sides(ATMOST), all_sides(ATMOST)
        self.assertEqual([next(first), next(first), next(second)], [(0, 0, 0), (0, 0, 1), (0, 0, 0)])
        self.assertEqual([list(first), len(list(second))], [[(0, 1, 0), (1, 0, 0)], 3])


class Papers(unittest.TestCase):
    def test_one_kind_for_each_rule(self):
        kinds = set()
        for rule in SMALL + MIDDLE + LARGE:
            paper = sides_paper(rule)
            self.assertTrue(is_paper(rule, paper), (rule, paper))
            self.assertIs(is_sides_paper(rule, paper), True)
            self.assertIs(paper[0] == "sides", bool(sides_by_patterns(rule)))
            self.assertEqual(repr(sides_paper(rule)), repr(paper))
            kinds.add(paper[0])
        self.assertEqual(kinds, {"sides", "walk"})

    def test_any_sides(self):
        for rule in SMALL[::3] + MIDDLE[::5]:
            for sides in brute_rows(rule[0]):
                value = ("sides", sides)
                self.assertIs(is_sides_paper(rule, value), is_paper(rule, value))

    def test_any_walks(self):
        chance = random.Random(2)
        seen = set()
        for rule in (ONE, EVEN, EQUAL, CYCLES, LARGE[1], (2, ((0, 1), (1, 0)))):
            for _ in range(200):
                here = chance.choice(brute.literals(rule[0]))
                walked = []
                for _ in range(chance.randrange(9)):
                    after = sorted(arrow for arrow in brute.arrows(rule) if arrow[0] == here)
                    if after:
                        arrow = chance.choice(after)
                        walked.append((here, chance.choice(brute.arrows(rule)[arrow])))
                        here = arrow[1]
                value = ("walk", tuple(walked) + ((here, None),))
                self.assertIs(is_sides_paper(rule, value), is_paper(rule, value))
                seen.add(is_paper(rule, value))
        self.assertEqual(seen, {False, True})

    def test_closed_walks_without_opposites(self):
        (first, there), (second, back) = ((0, 0), ((0, 0), (1, 1))), ((1, 0), ((0, 1), (1, 0)))
        self.assertIs(brute.is_closed_walk(EQUAL, ((first, there), (second, back), (first, None))), True)
        self.assertIs(is_sides_paper(EQUAL, ("walk", ((first, there), (second, back), (first, None)))), False)
        self.assertIs(is_sides_paper(EQUAL, ("walk", ((first, None),))), False)

    def test_a_literal_that_leads_to_its_opposite_only_one_way(self):
        given = (((1, 0), (2, 1), (3, 1)), ((1, 1), (2, 0), (3, 0)), ((0, 0), (1, 0)))
        rule = (4, tuple(row for row in brute_rows(4) if not any(brute.contains(row, each) for each in given)))
        steps = brute.distances(rule)
        self.assertEqual([((0, 0), (0, 1)) in steps, ((0, 1), (0, 0)) in steps], [True, False])
        self.assertTrue(sides_paper(rule)[0] == "walk" and is_paper(rule, sides_paper(rule)))

    def test_one_part_changed(self):
        for rule in (ONE, IMPLY, ATMOST):
            word, shown = sides_paper(rule)
            values = list(mutants((word, shown))) + list(JUNK) + [("walk", shown), ("sides", shown)]
            values += [("walk", value) for value in JUNK] + [("sides", value) for value in JUNK]
            for value in values + [(junk, shown) for junk in JUNK]:
                self.assertIs(is_sides_paper(rule, value), is_paper(rule, value), value)


class Folding(unittest.TestCase):
    def test_any_order_and_repeats(self):
        chance = random.Random(3)
        for size in (1, 2, 3, 7):
            for sides in chance.sample(brute_rows(size), min(6, 2 ** size)):
                for many in range(1, 7):
                    rows = tuple(chance.choice(brute_rows(size)) for _ in range(many))
                    found = fold(Sides(2, sides), rows)
                    self.assertEqual(repr(found), repr(tuple((max if side else min)(bits)
                                                             for side, bits in zip(sides, zip(*rows)))))
                    if many > 1:
                        self.assertEqual(found, Sides(many, sides)(rows))
                    for order in list(permutations(rows))[:6]:
                        self.assertEqual(fold(Sides(2, sides), order + order[:2]), found)

    def test_one_after_another(self):
        chance = random.Random(4)
        for size in (1, 2, 3, 5):
            for _ in range(20):
                policy = Table(tuple(chance.choice(brute.functions(2)) for _ in range(size)))
                rows = tuple(chance.choice(brute_rows(size)) for _ in range(chance.randrange(1, 30)))
                expected = rows[0]
                for row in rows[1:]:
                    expected = brute.merge(policy.functions, (expected, row))
                self.assertEqual(fold(policy, rows), expected)

    def test_other_policies_depend_on_the_order(self):
        for functions in product(brute.functions(2), repeat=2):
            policy = Table(functions)
            different = any(fold(policy, (a, b)) != fold(policy, (b, a)) for a in brute_rows(2) for b in brute_rows(2))
            self.assertIs(different, not any(policy == Sides(2, sides) for sides in brute_rows(2)))
        self.assertEqual(fold(Copy(2, 2, 0), ((1, 0), (0, 1), (0, 0))), (1, 0))
        self.assertEqual(fold(Copy(2, 2, 1), ((1, 0), (0, 1), (0, 0))), (0, 0))
        self.assertEqual(fold(Choice(1, ()), ((1,),)), (1,))

    def test_many_rows(self):
        rows = tuple(brute_rows(7)) * 20
        self.assertEqual(fold(Sides(2, (0, 1, 0, 1, 0, 1, 0)), rows), (0, 1, 0, 1, 0, 1, 0))


class Errors(unittest.TestCase):
    def test_making(self):
        wrong = tuple(value for value in JUNK) + (
            (), (0, 2), (0, True), (0,) * 8, [0, 1], (0, None), ((0,), 1), {0: 1}, "01", (0, "1"), 0,
        )
        check_errors(self, Sides, (3, (0, 1)), (
            (0, NO_NUMBERS + (0, 1, 7), InvalidNumber), (1, wrong, InvalidPolicy),
        ))

    def test_wrong_rules(self):
        for call in (sides_paper, lambda rule: is_sides_paper(rule, None), lambda rule: list(all_sides(rule)),
                     count_sides, forced_sides):
            check_errors(self, call, (ONE,), ((0, NO_RULES, InvalidRule),))
        with self.assertRaises(InvalidRule):
            next(all_sides(None))

    def test_folding(self):
        policies = tuple(value for value in JUNK if not isinstance(value, Policy)) + (
            Parity(3, 2), Sides(3, (0, 1)), Sides,
        ) + tuple(policy for policy in POLICIES if policy.replicas != 2)
        rows = JUNK + ((), ((0, 1), (0,)), ((0, 1), (0, 1, 1)), [(0, 1)], ((0, True),), ((0, 1), None), (0, 1),
                       ((0, 2), (0, 1)), ([0, 1],), {(0, 1): 1})
        check_errors(self, fold, (Sides(2, (0, 1)), ((0, 1),)), (
            (0, policies, InvalidPolicy), (1, rows, InvalidRow),
        ))


if __name__ == "__main__":
    unittest.main()
