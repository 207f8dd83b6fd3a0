"""Stage 12: envelopes."""

import random
import unittest
from itertools import product

from keywise.choices.choices import Choice
from keywise.envelopes import envelopes
from keywise.envelopes.envelopes import envelope, envelope_of, is_derivation, is_membership, membership, rounds, thinned
from keywise.errors import InvalidPolicy, InvalidRow, InvalidRule, TooLarge
from keywise.lattice.lattice import Sides
from keywise.levels.thresholds import Thresholds
from keywise.parity.parity import Parity
from keywise.policies.policies import Copy, Policy, Table
from tests.support import ATMOST, EVEN, IMPLY, JUNK, ONE
from tests.support import brute_rows, brute_rules, check_errors, mutants, outcome, policies_of, rule_with_rows
from tests.support import sample_rules
from tests.test_decide import MOST_ROWS, kept_by_least
from tests.test_rules import FREE_1, FREE_7, NO_RULES

RULES = [FREE_1, IMPLY, ONE, EVEN, ATMOST] + brute_rules(2) + brute_rules(3)[::12] + sample_rules(4, 4, 120) + [
    rule_with_rows(4, many, 120) for many in (2, 3, 4)
]


def merges(policy, rows):
    """All rows into which the policy merges some of these."""
    places = {bits: at for at, bits in enumerate(product((0, 1), repeat=policy.replicas))}
    return {tuple(function[places[bits]] for function, bits in zip(policy.functions, zip(*each)))
            for each in product(rows, repeat=policy.replicas)}


def brute_rounds(rows, policies):
    known = set(rows)
    found = []
    while True:
        new = set().union(*[merges(policy, known) for policy in policies]) - known
        if not new:
            return found
        found.append(tuple(sorted(new)))
        known |= new


def brute_envelope(rows, policies):
    return tuple(sorted(list(rows) + [row for each in brute_rounds(rows, policies) for row in each]))


def brute_thinned(rule, policies):
    left = list(rule[1])
    for row in rule[1]:
        others = [other for other in left if other != row]
        if row in brute_envelope(others, policies):
            left = others
    return (rule[0], tuple(left))


def some_policies(size, chance):
    """None to three policies of the size, for few replicas."""
    found = []
    for _ in range(chance.randrange(4)):
        found.append(chance.choice(policies_of(size, chance, (2, 2, 3, 3, 4))))
    return tuple(policy for policy in found if policy.replicas < 5)


def requests(many, seed, rules=RULES):
    """Yield rules with policies for which the merges can be gone through one by one."""
    chance = random.Random(seed)
    for rule in rules:
        for _ in range(many):
            policies = some_policies(rule[0], chance)
            most = max([policy.replicas for policy in policies], default=1)
            while (2 ** rule[0]) ** most > 5000:
                policies = policies[:-1]
                most = max([policy.replicas for policy in policies], default=1)
            yield rule, policies


def is_right_derivation(rule, policies, row, value):
    """Whether the value is a derivation, by the texts of its parts."""
    if type(value) is not tuple:
        return False
    known = {repr(each) for each in rule[1]}
    rows = {repr(each) for each in brute_rows(rule[0])}
    for step in value:
        if type(step) is not tuple or len(step) != 3:
            return False
        made, at, sources = step
        if type(at) is not int or not 0 <= at < len(policies) or repr(made) not in rows or type(sources) is not tuple:
            return False
        if len(sources) != policies[at].replicas or not all(repr(source) in known for source in sources):
            return False
        results = [function[int("".join(map(str, bits)), 2)] for function, bits in zip(policies[at].functions, zip(*sources))]
        if tuple(results) != made:
            return False
        known.add(repr(made))
    return value[-1][0] == row if value else repr(row) in known


def is_right_barrier(rule, policies, row, value):
    most = max([policy.replicas for policy in policies], default=1)
    if row in value[1] or not set(rule[1]) <= set(value[1]) or len(value[1]) ** most > 20000:
        return False
    return all(merges(policy, value[1]) <= set(value[1]) for policy in policies)


class Closing(unittest.TestCase):
    def test_limit(self):
        self.assertEqual(repr(envelopes.MAX_MERGES), "20000")

    def test_rounds_and_envelopes(self):
        many = []
        for rule, policies in requests(6, 121):
            expected = brute_rounds(rule[1], policies)
            self.assertEqual(repr(list(rounds(rule, policies))), repr(expected))
            found = envelope_of(rule, policies)
            self.assertEqual(repr(found), repr((rule[0], brute_envelope(rule[1], policies))))
            self.assertEqual(repr(envelope(rule, *policies)), repr(found))
            self.assertTrue(all(policy.keeps(found) for policy in policies))
            many.append(len(expected))
        self.assertEqual(sorted(set(many)), [0, 1, 2])

    def test_three_rounds(self):
        rule = (4, ((0, 1, 1, 1), (1, 0, 0, 0)))
        words = "00111001 01110111 01101011 01101111".split()
        policies = (Table(tuple(tuple(int(bit) for bit in word) for word in words)),)
        expected = brute_rounds(rule[1], policies)
        self.assertEqual(len(expected), 3)
        self.assertEqual(list(rounds(rule, policies)), expected)
        for row in brute_rows(4):
            found = membership(rule, policies, row)
            self.assertTrue(found[0] == "barrier" or is_right_derivation(rule, policies, row, found[1]))

    def test_it_is_the_least_rule(self):
        every = brute_rules(2) + brute_rules(3)[::5]
        for rule, policies in requests(3, 122, brute_rules(2) + [ONE, EVEN, ATMOST]):
            found = envelope_of(rule, policies)
            for other in every:
                if other[0] == rule[0] and set(rule[1]) <= set(other[1]) and all(each.keeps(other) for each in policies):
                    self.assertLessEqual(set(found[1]), set(other[1]))

    def test_no_policies(self):
        for rule in RULES + [FREE_7]:
            self.assertEqual(envelope(rule), rule)
            self.assertEqual(list(rounds(rule, ())), [])
            self.assertEqual(thinned(rule, ()), rule)

    def test_classes_do_not_matter(self):
        for rule, policies in requests(2, 123):
            tables = tuple(Table.of(policy) for policy in policies)
            self.assertEqual(list(rounds(rule, tables)), list(rounds(rule, policies)))
            self.assertEqual(thinned(rule, tables), thinned(rule, policies))
            self.assertEqual(envelope(rule, *policies[::-1]), envelope(rule, *policies, *policies))

    def test_many_replicas(self):
        rule = (2, ((0, 1), (1, 0)))
        self.assertEqual(envelope(rule, Sides(6, (0, 0)))[1], ((0, 0), (0, 1), (1, 0)))
        self.assertEqual(list(rounds(rule, (Sides(6, (0, 0)), Sides(2, (1, 1))))), [((0, 0), (1, 1))])
        self.assertEqual(list(rounds(ONE, (Parity(5, 3), Copy(5, 3, 4)))), [((1, 1, 1),)])

    def test_larger_rules(self):
        least, greatest = Sides(2, (0,) * 7), Sides(2, (1,) * 7)
        rule = (7, tuple(sorted(tuple(int(at == key) for at in range(7)) for key in range(7))))
        self.assertEqual(len(envelope(rule, least)[1]), 8)
        self.assertEqual(envelope(rule, greatest, least), FREE_7)
        self.assertEqual([len(each) for each in rounds(rule, (greatest,))], [21, 70, 29])
        self.assertEqual(len(envelope(rule, greatest)[1]), 127)
        self.assertEqual(thinned(envelope(rule, greatest), (greatest,)), rule)
        self.assertEqual(len(thinned(FREE_7, (least, greatest))[1]), 7)

    def test_anew_each_time(self):
        policies = (Sides(2, (0, 0, 0)), Parity(3, 3))
        first, second = rounds(ONE, policies), rounds(ONE, policies)
        expected = [((0, 0, 0), (1, 1, 1)), ((0, 1, 1), (1, 0, 1), (1, 1, 0))]
        self.assertEqual([next(first), next(second), next(first)], [expected[0], expected[0], expected[1]])
        self.assertEqual([list(first), list(second)], [[], expected[1:]])


class Members(unittest.TestCase):
    def test_every_row(self):
        kinds = {"derived": 0, "barrier": 0}
        for rule, policies in requests(3, 124):
            inside = brute_envelope(rule[1], policies)
            for row in brute_rows(rule[0]):
                found = membership(rule, policies, row)
                kinds[found[0]] += 1
                self.assertEqual((type(found), len(found)), (tuple, 2))
                self.assertEqual(found[0] == "derived", row in inside)
                self.assertIs(is_membership(rule, policies, row, found), True)
                if found[0] == "derived":
                    self.assertTrue(is_right_derivation(rule, policies, row, found[1]))
                    self.assertLessEqual(len(found[1]), len(inside))
                    self.assertIs(is_derivation(rule, policies, row, found[1]), True)
                else:
                    self.assertTrue(is_right_barrier(rule, policies, row, found[1]))
                self.assertIs(is_derivation(rule, policies, row, ()), row in rule[1])
        self.assertGreater(min(kinds.values()), 100)

    def test_other_derivations(self):
        chance = random.Random(125)
        for rule, policies in requests(3, 126):
            known, steps = list(rule[1]), []
            for _ in range(12 if policies else 0):
                at = chance.randrange(len(policies))
                sources = tuple(chance.choice(known) for _ in range(policies[at].replicas))
                steps.append((policies[at](sources), at, sources))
                known.append(steps[-1][0])
            value = tuple(steps)
            for row in brute_rows(rule[0]):
                right = is_right_derivation(rule, policies, row, value)
                self.assertEqual(right, row == steps[-1][0] if steps else row in rule[1])
                self.assertIs(is_derivation(rule, policies, row, value), right)
                self.assertIs(is_membership(rule, policies, row, ("derived", value)), right)
            twice = value + value
            if steps:
                self.assertIs(is_derivation(rule, policies, steps[-1][0], twice), True)
                for other in (value[::-1], value[1:], value[:-1], value[3:] + value[:3]):
                    row = other[-1][0]
                    expected = is_right_derivation(rule, policies, row, other)
                    self.assertIs(is_derivation(rule, policies, row, other), expected)

    def test_one_part_of_a_derivation_changed(self):
        policies = (Sides(2, (0, 0, 0)), Parity(3, 3))
        for row in ((0, 1, 1), (1, 1, 1), (0, 0, 0), (0, 0, 1)):
            found = membership(ONE, policies, row)[1] + ((row, 0, (row, row)),)
            for value in list(mutants(found)) + [found] + list(JUNK):
                expected = is_right_derivation(ONE, policies, row, value)
                self.assertIs(is_derivation(ONE, policies, row, value), expected, value)
                self.assertIs(is_membership(ONE, policies, row, ("derived", value)), expected)
        for policies in ((), (Sides(2, (0, 0, 0)),)):
            step = ((0, 0, 0), 0, ((0, 0, 1), (0, 1, 0)))
            self.assertIs(is_derivation(ONE, policies, (0, 0, 0), (step,)), policies != ())
        self.assertIs(is_derivation(ONE, (Sides(2, (0, 0, 0)),), (0, 0, 0), (((0, 0, 0), 0, ((0, 0, 0), (0, 0, 0))),)), False)

    def test_other_barriers(self):
        every = {size: brute_rules(size) for size in (1, 2, 3)}
        greater = 0
        for rule, policies in requests(2, 127, [FREE_1, IMPLY, ONE, ATMOST, EVEN] + brute_rules(2)):
            inside = envelope_of(rule, policies)
            for row in brute_rows(rule[0])[::2]:
                for other in every[rule[0]]:
                    expected = is_right_barrier(rule, policies, row, other)
                    self.assertIs(is_membership(rule, policies, row, ("barrier", other)), expected)
                    greater += expected and other != inside
        self.assertGreater(greater, 20)

    def test_barriers_that_are_too_great(self):
        rule = (3, ((0, 0, 0), (0, 0, 1), (0, 1, 0), (1, 0, 0)))
        least = Sides(6, (0, 0, 0))
        five = (3, rule[1][:3] + ((0, 1, 1), (1, 0, 0)))
        six = (3, five[1][:5] + ((1, 0, 1),))
        for barrier, expected in ((rule, True), (five, True), (six, False)):
            self.assertTrue(least.keeps(barrier))
            self.assertIs(is_membership(rule, (least,), (1, 1, 1), ("barrier", barrier)), expected)
            self.assertIs(is_membership(rule, (Sides(2, (0, 0, 0)),), (1, 1, 1), ("barrier", barrier)), True)
            self.assertIs(is_membership(rule, (Sides(2, (0, 0, 0)), least), (1, 1, 1), ("barrier", barrier)), expected)
        wide = (7, FREE_7[1][:-1])
        self.assertIs(is_membership(wide, (), (1,) * 7, ("barrier", wide)), True)
        self.assertIs(is_membership(wide, (Sides(2, (0,) * 7),), (1,) * 7, ("barrier", wide)), True)
        self.assertIs(is_membership(wide, (Sides(3, (0,) * 7),), (1,) * 7, ("barrier", wide)), False)

    def test_one_part_of_a_barrier_changed(self):
        least = (Sides(2, (0, 0, 0)),)
        right = {repr(("barrier", other)) for other in brute_rules(3) if is_right_barrier(ONE, least, (1, 1, 0), other)}
        for value in list(mutants(("barrier", ATMOST))) + [("barrier", ATMOST), ("derived", ATMOST), ("barrier", IMPLY)]:
            self.assertIs(is_membership(ONE, least, (1, 1, 0), value), repr(value) in right, value)
        for value in JUNK + tuple((word, each) for word in ("barrier", "derived") for each in JUNK):
            self.assertIs(is_membership(ONE, least, (1, 1, 0), value), False)
        for value in (("derived", (), ()), ["derived", ()], ("derived",), (), ("Derived", ()), (None, ())):
            self.assertIs(is_membership(ONE, least, (0, 0, 1), value), False)
        self.assertIs(is_membership(ONE, least, (0, 0, 1), ("barrier", ATMOST)), False)


class Thinning(unittest.TestCase):
    def test_row_by_row(self):
        shorter = 0
        for rule, policies in requests(4, 128):
            found = thinned(rule, policies)
            self.assertEqual(repr(found), repr(brute_thinned(rule, policies)))
            self.assertEqual(envelope_of(found, policies), envelope_of(rule, policies))
            self.assertEqual(thinned(found, policies), found)
            shorter += len(found[1]) < len(rule[1])
        self.assertGreater(shorter, 30)


class TooMany(unittest.TestCase):
    CALLS = (
        lambda rule, policies: envelope(rule, *policies), envelope_of, lambda rule, policies: list(rounds(rule, policies)),
        lambda rule, policies: membership(rule, policies, rule[1][0]), thinned,
    )

    def check(self, rule, policies, large):
        for call in self.CALLS:
            found = outcome(call, rule, policies)
            if large:
                self.assertEqual(found, (TooLarge, {"limit": 20000}))
            else:
                self.assertNotIn(TooLarge, list(found))
        if large:
            with self.assertRaises(TooLarge):
                next(rounds(rule, policies))

    def test_rules_that_are_kept(self):
        for n, most in MOST_ROWS.items():
            for many in (most, most + 1):
                rule = kept_by_least(many)
                for policies in ((Sides(n, (0,) * rule[0]),), (Sides(2, (0,) * rule[0]), Copy(n, rule[0], 0))):
                    self.check(rule, policies, many > most)
        self.check(FREE_7, (Sides(2, (0,) * 7), Choice(7, ())), False)
        self.check(FREE_7, (Sides(2, (0,) * 7), Copy(3, 7, 0)), True)
        self.check(FREE_7, (), False)

    def test_rules_that_grow(self):
        for n, most in MOST_ROWS.items():
            for many in (most, most + 1):
                rule = kept_by_least(many)
                begun = thinned(rule, (Sides(2, (0,) * rule[0]),))
                self.assertLess(len(begun[1]), many)
                self.check(begun, (Sides(n, (0,) * rule[0]),), many > most)
                self.check(begun, (Sides(2, (0,) * rule[0]), Copy(n, rule[0], 1)), many > most)

    def test_papers_have_no_limit(self):
        rule, policies = kept_by_least(28), (Sides(3, (0,) * 7),)
        self.assertIs(is_membership(rule, policies, rule[1][3], ("derived", ())), True)
        self.assertIs(is_membership(rule, policies, rule[1][3], ("barrier", rule)), False)
        self.assertIs(is_derivation(rule, policies, rule[1][3], ()), True)
        self.assertEqual(outcome(membership, rule, policies, rule[1][3])[0], TooLarge)


class Errors(unittest.TestCase):
    NO_POLICIES = tuple(value for value in JUNK if value != ()) + (
        Sides(2, (0, 0, 0)), [Sides(2, (0, 0, 0))], (Sides(2, (0, 0)),), (Sides(2, (0, 0, 0)), Copy(2, 4, 0)),
        (Sides(2, (0, 0, 0)), None), (Policy,), {Copy(2, 3, 0).size: 0}, ((Copy(2, 3, 0),),), ("copy 0 of 2 for 3 keys",),
    )

    def test_all(self):
        rules, policies = (0, NO_RULES, InvalidRule), (1, self.NO_POLICIES, InvalidPolicy)
        good = (ONE, (Sides(2, (0, 0, 0)),))
        for call in (envelope_of, lambda rule, many: list(rounds(rule, many)), lambda rule, many: next(rounds(rule, many)),
                     thinned):
            check_errors(self, call, good, (rules, policies))
        alone = tuple(value for value in JUNK if not isinstance(value, Policy)) + (Copy(2, 2, 0), Copy(2, 4, 0), good[1])
        check_errors(self, envelope, (ONE, Copy(2, 3, 0)), (rules, (1, alone, InvalidPolicy)))
        check_errors(self, envelope, (ONE, Copy(2, 3, 0), Copy(3, 3, 1)), (rules, (2, alone, InvalidPolicy)))
        wrong = (2, JUNK + ((0, 1), (0, 0, 2), (0, 0, True), [0, 0, 0], (0, 0, 0, 0)), InvalidRow)
        check_errors(self, membership, good + ((0, 0, 0),), (rules, policies, wrong))
        check_errors(self, is_membership, good + ((0, 0, 0), None), (rules, policies, wrong))
        check_errors(self, is_derivation, good + ((0, 0, 0), None), (rules, policies, wrong))

    def test_too_large_last(self):
        great = (Sides(3, (0,) * 7),)
        self.assertEqual(outcome(membership, FREE_7, great, None)[0], InvalidRow)
        self.assertEqual(outcome(membership, FREE_7, great + (None,), (0,) * 7)[0], InvalidPolicy)
        self.assertEqual(outcome(envelope, FREE_7, *great, Copy(2, 6, 0))[0], InvalidPolicy)
        self.assertEqual(outcome(thinned, None, great)[0], InvalidRule)


if __name__ == "__main__":
    unittest.main()
