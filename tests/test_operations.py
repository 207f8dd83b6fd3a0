"""Stage 13: changed rules."""

import random
import unittest
from itertools import combinations, permutations, product

from keywise.choices.choices import Choice
from keywise.decide.decide import decision
from keywise.errors import InvalidNumber, InvalidOperation, InvalidPolicy, InvalidRule, TooLarge
from keywise.lattice.lattice import Sides
from keywise.levels.thresholds import Thresholds
from keywise.operations.operations import beside, beside_policy, both, fixed, groups, hidden, joined, rearranged, turned
from keywise.operations.operations import turned_policy
from keywise.parity.parity import Parity
from keywise.policies.policies import Copy, Policy, Table
from tests import brute
from tests.support import ATMOST, EVEN, IMPLY, JUNK, ONE
from tests.support import brute_rows, brute_rules, check_errors, counted_rules, outcome, policies_of, sample_rules
from tests.test_policies import NO_NUMBERS
from tests.test_rules import FREE_1, FREE_7, LAST_7, NO_RULES

SMALL = brute_rules(1) + brute_rules(2) + brute_rules(3)[::4] + [ONE, EVEN, ATMOST]
MIDDLE = sample_rules(4, 8, 130) + sample_rules(5, 3, 131)
LARGE = sample_rules(7, 2, 132) + [LAST_7, FREE_7] + counted_rules(7)[60:63]
RULES = SMALL + MIDDLE + LARGE
REFUSED = (InvalidOperation, {})


def triple(rows, left_out=None):
    """What [13.1] says of the rows that are kept, as a text, or the error."""
    if not rows:
        return REFUSED
    size = len(rows[0])
    constants = {key: rows[0][key] for key in range(size) if len({row[key] for row in rows}) == 1}
    keys = tuple(key for key in range(size) if key not in constants and key != left_out)
    if not keys:
        return REFUSED
    left = tuple(sorted({tuple(row[key] for key in keys) for row in rows}))
    return repr(((len(keys), left), keys, constants))


def shown(found):
    return found if found == REFUSED else repr(found)


def with_numbers(partials, numbers):
    """The partial rows with new numbers for the keys, ascending."""
    return tuple(sorted(tuple(sorted((numbers[key], bit) for key, bit in each)) for each in partials))


class Keeping(unittest.TestCase):
    def test_fixed(self):
        refused = 0
        for rule in RULES:
            for key, bit in product(range(rule[0]), (0, 1)):
                found = outcome(fixed, rule, key, bit)
                self.assertEqual(shown(found), triple([row for row in rule[1] if row[key] == bit]))
                refused += found == REFUSED
        self.assertGreater(refused, 10)

    def test_joined(self):
        refused, constant = 0, 0
        for rule in RULES:
            for first, second in permutations(range(rule[0]), 2):
                found = outcome(joined, rule, first, second)
                expected = triple([row for row in rule[1] if row[first] == row[second]], second)
                self.assertEqual(shown(found), expected, (rule, first, second))
                refused += found == REFUSED
                constant += found != REFUSED and second in found[2]
        self.assertGreater(refused, 10)
        self.assertGreater(constant, 3)

    def test_joined_in_either_order(self):
        rule = (3, ((0, 0, 1), (0, 1, 0), (1, 0, 1), (1, 1, 0), (1, 1, 1)))
        self.assertEqual(joined(rule, 0, 2), ((2, ((0, 1), (1, 0), (1, 1))), (0, 1), {}))
        self.assertEqual(joined(rule, 2, 0), ((2, ((0, 1), (1, 0), (1, 1))), (1, 2), {}))
        free = (3, tuple(brute_rows(3)))
        self.assertEqual(joined(free, 2, 0), ((2, tuple(brute_rows(2))), (1, 2), {}))

    def test_both(self):
        refused = 0
        for size in (1, 2, 3):
            rules = [rule for rule in SMALL if rule[0] == size]
            for first, second in product(rules, rules[::2]):
                found = outcome(both, first, second)
                self.assertEqual(shown(found), triple([row for row in first[1] if row in second[1]]))
                refused += found == REFUSED
        self.assertGreater(refused, 50)
        for first, second in product(LARGE, LARGE):
            expected = triple([row for row in first[1] if row in second[1]])
            self.assertEqual(shown(outcome(both, first, second)), expected)

    def test_constants_ascend(self):
        rule = (4, ((0, 0, 0, 0), (0, 1, 0, 1), (1, 0, 1, 1), (1, 1, 1, 0)))
        self.assertEqual(repr(fixed(rule, 2, 1)), repr(((2, ((0, 1), (1, 0))), (1, 3), {0: 1, 2: 1})))
        self.assertEqual(joined(rule, 0, 1), ((2, ((0, 0), (1, 1))), (0, 2), {3: 0}))
        self.assertEqual(outcome(joined, (3, ((0, 1, 0), (1, 0, 1), (1, 1, 1))), 2, 1), REFUSED)


class Changing(unittest.TestCase):
    def test_hidden(self):
        for rule in RULES:
            self.assertEqual(hidden(rule), rule)
            for many in range(1, rule[0]):
                for keys in list(combinations(range(rule[0]), many))[:12]:
                    left = [key for key in range(rule[0]) if key not in keys]
                    rows = tuple(sorted({tuple(row[key] for key in left) for row in rule[1]}))
                    self.assertEqual(repr(hidden(rule, *keys)), repr((len(left), rows)))
                    self.assertEqual(hidden(rule, *keys[::-1]), (len(left), rows))

    def test_turned(self):
        for rule in RULES:
            self.assertEqual(turned(rule), rule)
            for many in range(1, rule[0] + 1):
                for keys in list(combinations(range(rule[0]), many))[:12]:
                    rows = [tuple(1 - bit if key in keys else bit for key, bit in enumerate(row)) for row in rule[1]]
                    self.assertEqual(repr(turned(rule, *keys)), repr((rule[0], tuple(sorted(rows)))))
                    self.assertEqual(turned(turned(rule, *keys[::-1]), *keys), rule)

    def test_rearranged(self):
        for rule in RULES:
            for keys in list(permutations(range(rule[0])))[::1 if rule[0] < 5 else 97]:
                rows = tuple(sorted(tuple(row[key] for key in keys) for row in rule[1]))
                self.assertEqual(repr(rearranged(rule, keys)), repr((rule[0], rows)))

    def test_beside(self):
        for first, second in list(product(SMALL[::3], SMALL[::3])) + [(MIDDLE[0], ONE), (ATMOST, MIDDLE[1])]:
            rows = tuple(row + other for row in first[1] for other in second[1])
            found = beside(first, second)
            self.assertEqual(repr(found), repr((first[0] + second[0], tuple(sorted(rows)))))
            self.assertEqual(hidden(found, *range(first[0])), second)
            self.assertEqual(decision(found)[0], "policy")

    def test_obstructions(self):
        for rule in SMALL[::2] + MIDDLE[:4]:
            word = decision(rule)[0]
            self.assertEqual(decision(turned(rule, 0))[0], word)
            self.assertEqual(decision(turned(rule, *range(rule[0])))[0], word)
            self.assertEqual(decision(rearranged(rule, tuple(range(rule[0]))[::-1]))[0], word)


class Patterns(unittest.TestCase):
    def test_hidden(self):
        for rule in SMALL + MIDDLE:
            for many in range(rule[0]):
                for keys in list(combinations(range(rule[0]), many))[:8]:
                    left = [key for key in range(rule[0]) if key not in keys]
                    kept = [each for each in brute.patterns(rule) if not {key for key, _ in each} & set(keys)]
                    numbers = {key: at for at, key in enumerate(left)}
                    self.assertEqual(brute.patterns(hidden(rule, *keys)), with_numbers(kept, numbers))

    def test_turned_and_rearranged(self):
        for rule in SMALL + MIDDLE:
            keys = tuple(range(rule[0]))[::-1]
            numbers = {old: new for new, old in enumerate(keys)}
            self.assertEqual(brute.patterns(rearranged(rule, keys)), with_numbers(brute.patterns(rule), numbers))
            expected = sorted(tuple((key, bit if key else 1 - bit) for key, bit in each) for each in brute.patterns(rule))
            self.assertEqual(brute.patterns(turned(rule, 0)), tuple(expected))

    def test_beside(self):
        for first, second in product(SMALL[::5], SMALL[1::5]):
            moved = [tuple((key + first[0], bit) for key, bit in each) for each in brute.patterns(second)]
            self.assertEqual(brute.patterns(beside(first, second)), tuple(sorted(list(brute.patterns(first)) + moved)))

    def test_fixed(self):
        for rule in SMALL + MIDDLE:
            for key, bit in product(range(rule[0]), (0, 1)):
                found = outcome(fixed, rule, key, bit)
                if found != REFUSED:
                    numbers = {old: new for new, old in enumerate(found[1])}
                    left = [tuple((k, b) for k, b in each if k not in found[2]) for each in brute.patterns(rule)]
                    self.assertLessEqual(set(brute.patterns(found[0])), set(with_numbers(left, numbers)))


class Groups(unittest.TestCase):
    def expected(self, rule):
        found = []
        for key in range(rule[0]):
            group = {key}
            for _ in range(rule[0]):
                for each in brute.patterns(rule):
                    keys = {k for k, _ in each}
                    group |= keys if keys & group else set()
            found.append(tuple(sorted(group)))
        return tuple(sorted(set(found)))

    def test_chains_of_keys(self):
        several = 0
        for rule in RULES + [beside(first, second) for first, second in product(SMALL[::6], SMALL[3::6])]:
            found = groups(rule)
            self.assertEqual(repr(found), repr(self.expected(rule)))
            rows = [hidden(rule, *[key for key in range(rule[0]) if key not in group])[1] for group in found]
            valid = [row for row in brute_rows(rule[0])
                     if all(tuple(row[key] for key in group) in each for group, each in zip(found, rows))]
            self.assertEqual(tuple(valid), rule[1])
            if len(found) > 1:
                several += 1
                self.assertEqual(decision(rule)[0], "policy")
        self.assertGreater(several, 20)

    def test_keys_between_others(self):
        rule = rearranged(beside(beside(EVEN, IMPLY), FREE_1), (0, 3, 5, 1, 4, 2))
        self.assertEqual(groups(rule), ((0, 3, 5), (1, 4), (2,)))
        self.assertEqual(groups(FREE_7), tuple((key,) for key in range(7)))
        chain = (4, tuple(row for row in brute_rows(4) if row[0] <= row[3] and row[3] <= row[1] and row[1] <= row[2]))
        self.assertEqual(groups(chain), ((0, 1, 2, 3),))


class Policies(unittest.TestCase):
    def test_turned(self):
        chance = random.Random(133)
        for size in (1, 2, 3, 5, 7):
            for policy in policies_of(size, chance) + policies_of(size, chance):
                keys = chance.sample(range(size), chance.randrange(size + 1))
                found = turned_policy(policy, *keys)
                self.assertIs(type(found), Table)
                for key, bits in product(range(size), list(product((0, 1), repeat=policy.replicas))[::3]):
                    other = tuple(1 - bit for bit in bits)
                    expected = 1 - policy.bit(key, other) if key in keys else policy.bit(key, bits)
                    self.assertEqual(repr(found.bit(key, bits)), repr(expected))
                self.assertEqual(turned_policy(found, *keys[::-1]), policy)
        self.assertEqual(turned_policy(Thresholds(5, (1, 2)), 1), Thresholds(5, (1, 4)))

    def test_beside(self):
        chance = random.Random(134)
        for first, second in ((1, 1), (2, 3), (3, 4), (6, 1)):
            for n in (2, 3, 5):
                every = policies_of(first, chance, (n,)), policies_of(second, chance, (n,))
                for one, other in product(*every):
                    if one.replicas == other.replicas:
                        found = beside_policy(one, other)
                        self.assertIs(type(found), Table)
                        self.assertEqual(repr(found.functions), repr(one.functions + other.functions))

    def test_policies_that_keep(self):
        chance = random.Random(135)
        told = {"fixed": 0, "joined": 0, "both": 0, "hidden": 0, "turned": 0, "beside": 0}
        for rule in SMALL + MIDDLE[:4]:
            for policy in policies_of(rule[0], chance, (2, 3)) + [Sides(2, (0,) * rule[0]), Sides(3, (1,) * rule[0])]:
                if len(rule[1]) ** policy.replicas < 20000 and policy.keeps(rule):
                    self.check_kept(rule, policy, told)
        for first, second in product(SMALL[::9], SMALL[::9]):
            for bits in product((0, 1), repeat=2):
                pair = Sides(3, (bits[0],) * first[0]), Sides(3, (bits[1],) * second[0])
                if pair[0].keeps(first) and pair[1].keeps(second) and len(first[1]) * len(second[1]) < 28:
                    told["beside"] += 1
                    self.assertTrue(beside_policy(*pair).keeps(beside(first, second)))
        self.assertGreater(min(told.values()), 20, told)

    def check_kept(self, rule, policy, told):
        size = rule[0]
        every = [("fixed", outcome(fixed, rule, key, bit)) for key, bit in product(range(size), (0, 1))]
        every += [("joined", outcome(joined, rule, first, second)) for first, second in permutations(range(size), 2)
                  if policy[first] == policy[second]]
        every += [("both", outcome(both, rule, other)) for other in SMALL[::3] if other[0] == size and policy.keeps(other)]
        for word, found in every:
            if found != REFUSED:
                told[word] += 1
                self.assertTrue(policy.on(found[1]).keeps(found[0]))
        for key in range(size if size > 1 else 0):
            told["hidden"] += 1
            left = tuple(other for other in range(size) if other != key)
            self.assertTrue(policy.on(left).keeps(hidden(rule, key)))
        keys = tuple(range(size))[::-1]
        told["turned"] += 1
        self.assertTrue(policy.on(keys).keeps(rearranged(rule, keys)))
        self.assertTrue(turned_policy(policy, *keys[1:]).keeps(turned(rule, *keys[1:])))


class Errors(unittest.TestCase):
    NO_KEYS = NO_NUMBERS + (3, 7)
    NO_POLICIES = tuple(value for value in JUNK if not isinstance(value, Policy)) + (Policy, [Copy(2, 2, 0)])

    def test_fixed_and_joined(self):
        rules, keys = (0, NO_RULES, InvalidRule), (1, self.NO_KEYS, InvalidNumber)
        check_errors(self, fixed, (EVEN, 2, 1), (rules, keys, (2, NO_NUMBERS + (2,), InvalidNumber)))
        check_errors(self, joined, (EVEN, 2, 1), (rules, keys, (2, self.NO_KEYS, InvalidNumber)))
        for key in range(3):
            self.assertEqual(outcome(joined, EVEN, key, key), (InvalidNumber, {"value": key}))
        self.assertEqual(outcome(joined, EVEN, 5, 5), (InvalidNumber, {"value": 5}))
        self.assertEqual(outcome(joined, FREE_1, 0, 0), (InvalidNumber, {"value": 0}))
        self.assertEqual(outcome(fixed, FREE_1, 0, 0), REFUSED)

    def test_both_and_beside(self):
        other = (1, NO_RULES, InvalidRule)
        check_errors(self, both, (EVEN, ATMOST), ((0, NO_RULES, InvalidRule), (1, NO_RULES + (IMPLY, FREE_7), InvalidRule)))
        check_errors(self, beside, (EVEN, ATMOST), ((0, NO_RULES, InvalidRule), other))
        check_errors(self, beside, (FREE_7, FREE_1), ((0, NO_RULES, InvalidRule), other))
        for first, second in ((FREE_7, FREE_1), (FREE_1, FREE_7), (MIDDLE[0], MIDDLE[1]), (FREE_7, FREE_7)):
            self.assertEqual(outcome(beside, first, second), (TooLarge, {"limit": 7}))
        self.assertEqual(beside(MIDDLE[0], ONE)[0], 7)

    def test_hidden_and_turned(self):
        for call in (hidden, turned, lambda rule, *keys: hidden(rule, 0, *keys)):
            check_errors(self, call, (EVEN, 1, 2)[:2], ((0, NO_RULES, InvalidRule), (1, self.NO_KEYS, InvalidNumber)))
            check_errors(self, turned, (EVEN, 1, 2), (
                (0, NO_RULES, InvalidRule), (1, self.NO_KEYS, InvalidNumber), (2, self.NO_KEYS, InvalidNumber),
            ))
            self.assertEqual(outcome(call, EVEN, 1, 1), REFUSED)
            self.assertEqual(outcome(call, EVEN, 1, 1, 3), (InvalidNumber, {"value": 3}))
            self.assertEqual(outcome(call, EVEN, 1, 1, True, 3), (InvalidNumber, {"value": True}))
        self.assertEqual(outcome(hidden, EVEN, 0, 1, 2), REFUSED)
        self.assertEqual(outcome(hidden, FREE_1, 0), REFUSED)
        self.assertEqual(turned(EVEN, 2, 0, 1), (3, ((0, 0, 1), (0, 1, 0), (1, 0, 0), (1, 1, 1))))

    def test_rearranged(self):
        wrong = JUNK + ((0, 1), (0, 1, 1), (0, 1, 3), (0, 1, 2, 2), [0, 1, 2], (0, True, 2), (False, 1, 2), (0, 1, None),
                        (0, 1, -1), {0: 0, 1: 1, 2: 2}, "012", 3, (0, 1, 2, 3), ((0,), 1, 2))
        check_errors(self, rearranged, (EVEN, (0, 2, 1)), ((0, NO_RULES, InvalidRule), (1, wrong, InvalidOperation)))

    def test_policies(self):
        check_errors(self, turned_policy, (Parity(3, 3), 1, 2), (
            (0, self.NO_POLICIES, InvalidPolicy), (1, self.NO_KEYS, InvalidNumber), (2, self.NO_KEYS, InvalidNumber),
        ))
        self.assertEqual(outcome(turned_policy, Parity(3, 3), 1, 1), REFUSED)
        self.assertEqual(outcome(turned_policy, Parity(3, 3), 1, 1, 3), (InvalidNumber, {"value": 3}))
        check_errors(self, beside_policy, (Parity(3, 3), Copy(3, 4, 0)), (
            (0, self.NO_POLICIES, InvalidPolicy), (1, self.NO_POLICIES, InvalidPolicy),
        ))
        self.assertEqual(outcome(beside_policy, Copy(2, 1, 0), Copy(3, 1, 0)), REFUSED)
        self.assertEqual(outcome(beside_policy, Copy(2, 7, 0), Copy(3, 7, 0)), REFUSED)
        self.assertEqual(outcome(beside_policy, Choice(4, ()), Sides(2, (0,) * 4)), (TooLarge, {"limit": 7}))
        self.assertEqual(len(beside_policy(Choice(4, ()), Sides(2, (0,) * 3))), 7)

    def test_groups(self):
        check_errors(self, groups, (EVEN,), ((0, NO_RULES, InvalidRule),))


if __name__ == "__main__":
    unittest.main()
