"""Stage 7: thresholds."""

import random
import unittest
from fractions import Fraction
from itertools import product

from keywise.errors import InvalidNumber, InvalidPartial, InvalidPolicy, InvalidRule, TooLarge
from keywise.lattice.lattice import Sides
from keywise.levels.thresholds import Thresholds, count_thresholds, heaviest_pattern, merge_into, number_range
from keywise.levels.thresholds import thresholds
from keywise.policies.policies import Copy, Policy, Table
from tests import brute
from tests.support import ATMOST, EVEN, IMPLY, JUNK, NO_SIZES, ONE
from tests.support import brute_partials, brute_rows, brute_rules, check_errors, counted_rules, outcome, sample_rules
from tests.test_policies import NO_NUMBERS, rows_for
from tests.test_rules import FREE_1, FREE_7, LAST_7, NO_RULES

SMALL = brute_rules(1) + brute_rules(2) + brute_rules(3)[::5] + [ONE, EVEN, ATMOST]
MIDDLE = sample_rules(4, 12, 61) + sample_rules(5, 6, 62)
LARGE = sample_rules(6, 5, 63) + sample_rules(7, 5, 64) + counted_rules(7)[4::40] + [LAST_7, FREE_7]


def all_numbers(size, replicas):
    return list(product(range(1, replicas + 1), repeat=size))


def load(replicas, numbers, partial):
    return sum(replicas - numbers[key] if bit else numbers[key] - 1 for key, bit in partial)


def keeps(rule, replicas, numbers):
    return all(load(replicas, numbers, pattern) < replicas for pattern in brute.patterns(rule))


def random_policy(chance, size):
    n = chance.randrange(2, 7)
    return Thresholds(n, tuple(chance.randrange(1, n + 1) for _ in range(size)))


class Policies(unittest.TestCase):
    def test_counting_ones(self):
        for n in range(2, 7):
            policy = Thresholds(n, tuple(range(1, n + 1)))
            self.assertEqual((policy.replicas, policy.size, policy.numbers), (n, n, tuple(range(1, n + 1))))
            for at, bits in enumerate(product((0, 1), repeat=n)):
                for key in range(n):
                    self.assertEqual(repr(policy[key][at]), repr(int(sum(bits) >= key + 1)))
        chance = random.Random(1)
        for _ in range(40):
            policy = random_policy(chance, chance.randrange(1, 8))
            for rows in rows_for(policy, 5):
                expected = tuple(int(sum(bits) >= number) for bits, number in zip(zip(*rows), policy.numbers))
                self.assertEqual(repr(policy(rows)), repr(expected))
                self.assertEqual(policy.merged(*rows), expected)

    def test_levels_and_texts(self):
        for n in range(2, 7):
            for t in range(1, n + 1):
                level = Fraction(t - 1, n - 1)
                policy = Thresholds(n, (t, 1))
                self.assertEqual(repr(policy.levels), repr(((level.numerator, level.denominator), (0, 1))))
                self.assertEqual(str(policy), f"thresholds of {n}: {t} 1")
        self.assertEqual(str(Thresholds(6, (3,) * 7)), "thresholds of 6: 3 3 3 3 3 3 3")

    def test_majority(self):
        for size in range(1, 8):
            self.assertEqual(Thresholds.majority(size).numbers, (2,) * size)
            self.assertEqual(Thresholds.majority(size).replicas, 3)
            for n in (3, 5):
                policy = Thresholds.majority(size, replicas=n)
                self.assertIs(type(policy), Thresholds)
                self.assertEqual((policy.replicas, policy.numbers), (n, ((n + 1) // 2,) * size))
                for rows in rows_for(policy, 4):
                    self.assertEqual(policy(rows), tuple(int(2 * sum(bits) > n) for bits in zip(*rows)))

    def test_load(self):
        chance = random.Random(2)
        for size in (1, 2, 3, 4, 7):
            for _ in range(4):
                policy = random_policy(chance, size)
                for partial in brute_partials(size)[::1 if size < 4 else 17]:
                    expected = load(policy.replicas, policy.numbers, partial)
                    self.assertEqual(repr(policy.load(partial)), repr(expected))

    def test_changed_leaves_the_old_policy(self):
        policy = Thresholds(4, (1, 2, 3))
        for key in range(3):
            for number in range(1, 5):
                new = policy.changed(key, number)
                self.assertIs(type(new), Thresholds)
                self.assertEqual(new.numbers, tuple(number if at == key else policy.numbers[at] for at in range(3)))
                self.assertEqual(new, Thresholds(4, new.numbers))
        self.assertEqual((policy.numbers, policy), ((1, 2, 3), Thresholds(4, (1, 2, 3))))

    def test_properties_cannot_be_assigned(self):
        policy = Thresholds(3, (1, 2))
        for name in ("numbers", "levels"):
            with self.assertRaises(AttributeError):
                setattr(policy, name, (1, 1))
        self.assertEqual((policy.numbers, policy.levels), ((1, 2), ((0, 1), (1, 2))))

    def test_equal_policies(self):
        for n in range(2, 7):
            policy = Thresholds(n, (1, n))
            for other in (Sides(n, (1, 0)), Table.of(policy), policy.on((0, 1)), Thresholds(n, (n, n)).changed(0, 1)):
                self.assertTrue(policy == other and other == policy)
            self.assertFalse(policy == Thresholds(n, (n, 1)) or policy == Copy(n, 2, 0))
        self.assertEqual(Thresholds(3, (2, 3)).on((1, 0, )), Thresholds(3, (3, 2)))


class Keeping(unittest.TestCase):
    def check(self, policy, rule, expected):
        told = policy.broken_merge(rule)
        self.assertIs(policy.keeps(rule), expected, (str(policy), rule))
        self.assertTrue(told is None if expected else brute.is_broken_merge(policy, rule, told))

    def test_against_all_merges(self):
        for rule in SMALL:
            for n in (2, 3, 4):
                for numbers in all_numbers(rule[0], n)[::1 if n < 4 else 5]:
                    policy = Thresholds(n, numbers)
                    self.check(policy, rule, not brute.broken(policy, rule))
        for n in (5, 6):
            for numbers in all_numbers(2, n)[::2]:
                for rule in brute_rules(2):
                    policy = Thresholds(n, numbers)
                    self.check(policy, rule, not brute.broken(policy, rule))

    def test_against_the_loads(self):
        chance = random.Random(3)
        for rule in MIDDLE + LARGE:
            for _ in range(8):
                policy = random_policy(chance, rule[0])
                self.check(policy, rule, keeps(rule, policy.replicas, policy.numbers))

    def test_never_too_large(self):
        self.check(Thresholds(6, (1, 2, 3, 4, 5, 6, 1)), FREE_7, True)
        rule = (7, FREE_7[1][1:])
        self.check(Thresholds(6, (1,) * 7), rule, True)
        self.check(Thresholds(6, (2,) * 7), rule, False)


class Finding(unittest.TestCase):
    def test_ascending_and_complete(self):
        for rule in SMALL + [FREE_1]:
            for n in range(2, 7):
                expected = [numbers for numbers in all_numbers(rule[0], n) if keeps(rule, n, numbers)]
                self.assertEqual(repr(list(thresholds(rule, n))), repr(expected))
                self.assertEqual(repr(count_thresholds(rule, n)), repr(len(expected)))
        for rule in MIDDLE + LARGE[:-1]:
            for n in (2, 3, 4):
                if n ** rule[0] < 5000:
                    expected = [numbers for numbers in all_numbers(rule[0], n) if keeps(rule, n, numbers)]
                    self.assertEqual(list(thresholds(rule, n)), expected)
                    self.assertEqual(count_thresholds(rule, n), len(expected))

    def test_great_rules(self):
        for rule in LARGE:
            for n in (5, 6):
                generator = thresholds(rule, n)
                first = [numbers for numbers, _ in zip(generator, range(200))]
                self.assertEqual(sorted(set(first)), first)
                self.assertTrue(all(keeps(rule, n, numbers) for numbers in first))
        self.assertEqual(next(thresholds(FREE_7, 6)), (1,) * 7)
        self.assertEqual(count_thresholds(FREE_7, 4), 4 ** 7)

    def test_counts_are_those_of_the_listed_ones(self):
        chance = random.Random(8)
        every = brute_rules(1) + brute_rules(2) + brute_rules(3) + counted_rules(7)[::6]
        every += [(7, tuple(sorted(chance.sample(FREE_7[1], 128 - many)))) for many in (0, 1, 1, 2, 3, 5, 8, 13)]
        for rule in every:
            for n in (2, 3, 4):
                if rule == FREE_7 and n == 4:
                    self.assertEqual(repr(count_thresholds(rule, n)), "16384")
                    continue
                self.assertEqual(repr(count_thresholds(rule, n)), repr(len(list(thresholds(rule, n)))), (rule, n))
                keys = sorted(chance.sample(range(rule[0]), chance.randrange(rule[0] + 1)))
                given = tuple((key, chance.randrange(1, n + 1)) for key in keys)
                listed = list(thresholds(rule, n, given=given))
                self.assertEqual(count_thresholds(rule, n, given=given), len(listed), (rule, n, given))

    def test_counts_near_the_limit(self):
        for size, n in ((7, 4), (6, 5), (5, 6), (4, 6)):
            free = (size, tuple(brute_rows(size)))
            self.assertEqual(count_thresholds(free, n), n ** size)
            for rule in [(size, free[1][1:]), (size, free[1][:-2])] + sample_rules(size, 4, 65):
                expected = sum(1 for _ in thresholds(rule, n))
                self.assertEqual(count_thresholds(rule, n), expected)

    def test_given_numbers(self):
        chance = random.Random(4)
        for rule in [IMPLY, ONE, ATMOST, EVEN] + MIDDLE[:6] + SMALL[::6]:
            for n in (2, 3, 4, 6):
                if n ** rule[0] > 5000:
                    continue
                for _ in range(4):
                    keys = sorted(chance.sample(range(rule[0]), chance.randrange(rule[0] + 1)))
                    given = tuple((key, chance.randrange(1, n + 1)) for key in keys)
                    expected = [numbers for numbers in all_numbers(rule[0], n)
                                if all(numbers[key] == number for key, number in given) and keeps(rule, n, numbers)]
                    self.assertEqual(repr(list(thresholds(rule, n, given=given))), repr(expected))
                    self.assertEqual(count_thresholds(rule, n, given=given), len(expected))

    def test_anew_each_time(self):
        expected = list(thresholds(ATMOST, 3))
        first, second = thresholds(ATMOST, 3), thresholds(ATMOST, 3)
        self.assertEqual([next(first), next(second), next(first)], [expected[0], expected[0], expected[1]])
        self.assertEqual(list(thresholds(ATMOST, 3)), expected)
        self.assertEqual([list(second), list(first)], [expected[1:], expected[2:]])

    def test_too_large(self):
        for size in range(1, 8):
            rule = (size, tuple(brute_rows(size)))
            for n in range(2, 7):
                for given in ((), ((0, 1),), tuple((key, 2) for key in range(size))):
                    found = outcome(count_thresholds, rule, n, given=given)
                    many = n ** (size - len(given))
                    self.assertEqual(found, (TooLarge, {"limit": 20000}) if n ** size > 20000 else many)
        wrong = [(0, 1)]
        self.assertEqual(outcome(count_thresholds, FREE_7, 6, given=wrong), (InvalidNumber, {"value": wrong}))
        self.assertEqual(list(thresholds(FREE_7, 6, given=tuple((key, 3) for key in range(7)))), [(3,) * 7])


class Patterns(unittest.TestCase):
    def test_heaviest(self):
        chance = random.Random(5)
        for rule in SMALL + MIDDLE + LARGE:
            for _ in range(4):
                policy = random_policy(chance, rule[0])
                loads = [(load(policy.replicas, policy.numbers, each), each) for each in brute.patterns(rule)]
                most = max([weight for weight, _ in loads], default=None)
                expected = next(((each, weight) for weight, each in loads if weight == most), None)
                self.assertEqual(repr(heaviest_pattern(rule, policy)), repr(expected))
        self.assertIsNone(heaviest_pattern(FREE_7, Thresholds.majority(7)))
        self.assertEqual(heaviest_pattern(ATMOST, Thresholds(2, (2, 2, 2))), (((0, 1), (1, 1)), 0))

    def test_merge_into(self):
        chance = random.Random(6)
        merged = 0
        for rule in SMALL + MIDDLE + LARGE:
            for pattern in brute.patterns(rule)[:6]:
                for _ in range(4):
                    policy = random_policy(chance, rule[0])
                    found = merge_into(rule, policy, pattern)
                    if load(policy.replicas, policy.numbers, pattern) < policy.replicas:
                        self.assertIsNone(found)
                    else:
                        merged += 1
                        self.assertTrue(brute.is_broken_merge(policy, rule, found))
                        self.assertTrue(brute.contains(policy(found), pattern))
        self.assertGreater(merged, 200)

    def test_number_range(self):
        chance = random.Random(7)
        for rule in SMALL + MIDDLE + LARGE:
            for _ in range(3):
                policy = random_policy(chance, rule[0])
                some = next(thresholds(rule, 3), None)
                for each in (policy, policy if some is None else Thresholds(3, some)):
                    for key in range(rule[0]):
                        self.check_range(rule, each, key)

    def check_range(self, rule, policy, key):
        fitting = [t for t in range(1, policy.replicas + 1)
                   if keeps(rule, policy.replicas, policy.changed(key, t).numbers)]
        expected = (fitting[0], fitting[-1]) if fitting else None
        self.assertEqual(repr(number_range(rule, policy, key)), repr(expected))

    def test_number_range_for_all_small_policies(self):
        for rule in (IMPLY, ONE, ATMOST, EVEN):
            for n in (2, 3, 4):
                for numbers in all_numbers(rule[0], n):
                    for key in range(rule[0]):
                        self.check_range(rule, Thresholds(n, numbers), key)


class Errors(unittest.TestCase):
    NO_POLICIES = tuple(value for value in JUNK if not isinstance(value, Policy)) + (
        Copy(3, 3, 1), Sides(3, (0, 1, 1)), Table.of(Thresholds(3, (1, 2, 3))), Thresholds(3, (2, 2)),
        Thresholds(3, (2, 2, 2, 2)), Thresholds, (2, 2, 2),
    )

    def test_making(self):
        wrong = tuple(value for value in JUNK if value != (2,)) + (
            (), (1, 2, 4), (0, 1), (1,) * 8, (1, True), [1, 2], (1, None), (1, "2"), {1: 2}, 1, (1, -1), ((1,), 2),
        )
        replicas = NO_NUMBERS + (0, 1, 7)
        check_errors(self, Thresholds, (3, (1, 2)), ((0, replicas, InvalidNumber), (1, wrong, InvalidPolicy)))
        check_errors(self, lambda size, n: Thresholds.majority(size, replicas=n), (3, 5), (
            (0, NO_SIZES, InvalidNumber), (1, NO_NUMBERS + (0, 1, 2, 4, 6, 7), InvalidNumber),
        ))

    def test_load_and_changed(self):
        policy = Thresholds(4, (1, 2, 3))
        wrong = tuple(value for value in JUNK if value != ()) + (((3, 0),), ((1, 0), (0, 0)), [(0, 1)], ((0, True),))
        check_errors(self, policy.load, (((0, 1),),), ((0, wrong, InvalidPartial),))
        check_errors(self, policy.changed, (1, 4), (
            (0, NO_NUMBERS + (3, 7), InvalidNumber), (1, NO_NUMBERS + (0, 5), InvalidNumber),
        ))

    def test_finding(self):
        given = tuple(value for value in JUNK if value != ()) + (
            ((0, 0),), ((0, 4),), ((3, 1),), ((-1, 1),), ((-1, 1), (0, 1)), ((1, 1), (0, 1)), ((0, 1), (0, 2)), ((0, 1), (0, 1)), ((0, True),),
            ((False, 1),), [(0, 1)], {0: 1}, ((0, 1, 1),), ((0,),), (0, 1), ((0, 1), None), ([0, 1],), ((0, None),),
        )
        for call in (lambda rule, n, pairs: list(thresholds(rule, n, given=pairs)),
                     lambda rule, n, pairs: count_thresholds(rule, n, given=pairs)):
            check_errors(self, call, (ONE, 3, ((1, 2),)), (
                (0, NO_RULES, InvalidRule), (1, NO_NUMBERS + (0, 1, 7), InvalidNumber), (2, given, InvalidNumber),
            ))
        with self.assertRaises(InvalidNumber):
            next(thresholds(ONE, 9))

    def test_asking(self):
        policy = Thresholds(3, (2, 2, 2))
        rules, policies = (0, NO_RULES, InvalidRule), (1, self.NO_POLICIES, InvalidPolicy)
        check_errors(self, heaviest_pattern, (ONE, policy), (rules, policies))
        wrong = JUNK + (((0, 0), (1, 0)), ((0, 1), (1, 1), (2, 0)), [(0, 1), (1, 1)], ((1, 1), (0, 1)))
        check_errors(self, merge_into, (ONE, policy, ((0, 1), (1, 1))), (rules, policies, (2, wrong, InvalidPartial)))
        check_errors(self, number_range, (ONE, policy, 2), (rules, policies, (2, NO_NUMBERS + (3,), InvalidNumber)))


if __name__ == "__main__":
    unittest.main()
