"""Stage 15: forecasts."""

import random
import unittest
from itertools import product

from keywise.choices.choices import Choice
from keywise.errors import InvalidNumber, InvalidPolicy, InvalidRow, InvalidRule, TooLarge
from keywise.lattice.lattice import Sides
from keywise.levels.thresholds import Thresholds
from keywise.parity.parity import Parity
from keywise.policies.policies import Copy, Policy, Table
from keywise.store.forecasts import completion, is_completion, open_pair, open_replicas, outlook, settled, shown_rows
from keywise.store.store import Store
from tests import brute
from tests.support import ATMOST, EVEN, IMPLY, JUNK, ONE
from tests.support import brute_rows, brute_rules, check_errors, mutants, outcome, policies_of, random_function
from tests.support import rule_with_rows, sample_rules
from tests.test_decide import MOST_ROWS
from tests.test_policies import NO_NUMBERS
from tests.test_rules import FREE_1, FREE_7, LAST_7, NO_RULES

RULES = [FREE_1, IMPLY, ONE, EVEN, ATMOST] + brute_rules(2)[::2] + brute_rules(3)[::40] + sample_rules(4, 3, 150)


def completions(rule, known):
    return list(product(*[rule[1] if row is None else (row,) for row in known]))


def random_knowledge(chance, rule, replicas):
    return tuple(chance.choice(rule[1]) if chance.random() < 0.5 else None for _ in range(replicas))


def requests(many, seed, most=700):
    """Yield rules, policies and knowledge with so few completions that they can be gone through one by one."""
    chance = random.Random(seed)
    for rule in RULES:
        for policy in policies_of(rule[0], chance, (2, 3)) + policies_of(rule[0], chance, (2, 3, 4, 5, 6)):
            for _ in range(many):
                known = random_knowledge(chance, rule, policy.replicas)
                if len(rule[1]) ** known.count(None) <= most:
                    yield rule, policy, known


def possible(rule, policy, known):
    return sorted({brute.merge(policy.functions, rows) for rows in completions(rule, known)})


def is_right_pair(rule, policy, known, key, replica, value):
    if type(value) is not tuple or len(value) != 2 or not all(rows in completions(rule, known) for rows in value):
        return False
    first, second = value
    if [at for at in range(len(known)) if first[at] != second[at]] != [replica]:
        return False
    return [brute.merge(policy.functions, rows)[key] for rows in value] == [0, 1]


def is_open(rule, policy, known, key, replica):
    """By the definition: two completions that differ only there are merged into rows with different bits."""
    if known[replica] is not None:
        return False
    bits = {}
    for rows in completions(rule, known):
        others = rows[:replica] + rows[replica + 1:]
        bits.setdefault(others, set()).add(brute.merge(policy.functions, rows)[key])
    return any(len(each) == 2 for each in bits.values())


class Forecasts(unittest.TestCase):
    def test_possible_rows(self):
        for rule, policy, known in requests(3, 151):
            found = shown_rows(rule, policy, known)
            self.assertEqual(repr(found), repr(tuple(possible(rule, policy, known))))
            if len(rule[1]) ** policy.replicas <= 20000 and policy.keeps(rule):
                self.assertTrue(set(found) <= set(rule[1]))

    def test_settled_keys(self):
        some = 0
        for rule, policy, known in requests(3, 152):
            rows = possible(rule, policy, known)
            expected = {key: rows[0][key] for key in range(rule[0]) if len({row[key] for row in rows}) == 1}
            self.assertEqual(repr(settled(rule, policy, known)), repr(expected))
            some += 0 < len(expected) < rule[0]
        self.assertGreater(some, 40)

    def test_open_replicas_and_pairs(self):
        told = {True: 0, False: 0}
        for rule, policy, known in requests(1, 153, 130):
            for key in range(rule[0]):
                expected = [at for at in range(policy.replicas) if is_open(rule, policy, known, key, at)]
                self.assertEqual(repr(open_replicas(rule, policy, known, key)), repr(tuple(expected)))
                self.assertEqual(key in settled(rule, policy, known), not expected)
                for replica in range(policy.replicas):
                    pair = open_pair(rule, policy, known, key, replica)
                    told[replica in expected] += 1
                    if replica in expected:
                        self.assertTrue(is_right_pair(rule, policy, known, key, replica, pair))
                    else:
                        self.assertIsNone(pair)
        self.assertGreater(min(told.values()), 200)

    def test_completions(self):
        for rule, policy, known in requests(1, 154, 300):
            rows = possible(rule, policy, known)
            for row in brute_rows(rule[0]):
                found = completion(rule, policy, known, row)
                if row in rows:
                    self.assertIn(found, completions(rule, known))
                    self.assertEqual(brute.merge(policy.functions, found), row)
                    self.assertIs(is_completion(rule, policy, known, row, found), True)
                else:
                    self.assertIsNone(found)
                    self.assertIs(is_completion(rule, policy, known, row, None), False)

    def test_any_completion(self):
        for rule, policy, known in requests(1, 155, 60):
            for value in completions(rule, known)[:40]:
                merged = brute.merge(policy.functions, value)
                for row in brute_rows(rule[0]):
                    self.assertIs(is_completion(rule, policy, known, row, value), row == merged)
        chance = random.Random(156)
        for rule, policy, known in requests(1, 157, 60):
            value = tuple(chance.choice(brute_rows(rule[0])) for _ in range(policy.replicas))
            row = brute.merge(policy.functions, value)
            self.assertIs(is_completion(rule, policy, known, row, value), value in completions(rule, known))

    def test_one_part_changed(self):
        for rule, policy, known in ((ATMOST, Sides(3, (0, 0, 0)), ((0, 0, 1), None, None)), (EVEN, Parity(3, 3), (None,) * 3),
                                    (IMPLY, Choice(2, ((1, 1),)), ((0, 1), (1, 1)))):
            row = possible(rule, policy, known)[0]
            value = completion(rule, policy, known, row)
            right = {repr(each) for each in completions(rule, known) if brute.merge(policy.functions, each) == row}
            for other in list(mutants(value)) + [value] + list(JUNK):
                self.assertIs(is_completion(rule, policy, known, row, other), repr(other) in right, other)

    def test_all_known(self):
        for rule, policy in ((IMPLY, Thresholds(3, (2, 1))), (ONE, Parity(5, 3)), (LAST_7, Copy(6, 7, 4))):
            known = tuple(rule[1][at % len(rule[1])] for at in range(policy.replicas))
            row = policy(known)
            self.assertEqual(shown_rows(rule, policy, known), (row,))
            self.assertEqual(settled(rule, policy, known), dict(enumerate(row)))
            self.assertEqual((completion(rule, policy, known, row), open_replicas(rule, policy, known, 0)), (known, ()))

    def test_seven_keys_and_six_replicas(self):
        chance = random.Random(158)
        for rule in (FREE_7, LAST_7, rule_with_rows(7, 60, 159)):
            for policy in (Table(tuple(random_function(chance, 6) for _ in range(7))), Sides(6, (0, 1) * 3 + (0,))):
                for known in ((None,) * 6, (None, rule[1][0], None, rule[1][1], rule[1][-1], None)):
                    found = settled(rule, policy, known)
                    for key in range(7):
                        results = [policy.bit(key, bits) for bits in product((0, 1), repeat=6)
                                   if all(row is None or row[key] == bit for row, bit in zip(known, bits))]
                        self.assertEqual(found.get(key), results[0] if len(set(results)) == 1 else None)
                        replicas = open_replicas(rule, policy, known, key)
                        self.assertEqual(replicas == (), key in found)
                        for replica in replicas:
                            first, second = open_pair(rule, policy, known, key, replica)
                            self.assertTrue(all(row in rule[1] for row in first + second))
                            self.assertTrue(all(row is None or row == here for row, here in zip(known, first)))
                            self.assertEqual([at for at in range(6) if first[at] != second[at]], [replica])
                            self.assertEqual((policy(first)[key], policy(second)[key]), (0, 1))
                            self.assertIs(is_completion(rule, policy, known, policy(first), first), True)

    def test_keys_that_are_not_settled_may_depend_on_one_another(self):
        equal = (2, ((0, 0), (1, 1)))
        self.assertEqual(shown_rows(equal, Sides(2, (0, 0)), (None, None)), ((0, 0), (1, 1)))
        self.assertEqual(settled(equal, Sides(2, (0, 0)), (None, None)), {})
        self.assertEqual(shown_rows(equal, Sides(2, (0, 1)), (None, None)), ((0, 0), (0, 1), (1, 1)))


class TooMany(unittest.TestCase):
    def test_exactly_above_the_limit(self):
        told = (TooLarge, {"limit": 20000})
        for unknown, most in MOST_ROWS.items():
            for n in range(max(unknown, 2), 7):
                for many in (most, most + 1):
                    rule = rule_with_rows(6, many, unknown)
                    policy = Sides(n, (0,) * 6)
                    known = (None,) * (unknown - 1) + rule[1][:1] * (n - unknown) + (None,)
                    row = rule[1][0]
                    self.assertEqual(outcome(shown_rows, rule, policy, known) == told, many > most)
                    self.assertEqual(outcome(completion, rule, policy, known, row) == told, many > most)
                    self.assertIs(is_completion(rule, policy, known, row, None), False)
                    self.assertLessEqual(len(settled(rule, policy, known)), 6)
                    self.assertLessEqual(len(open_replicas(rule, policy, known, 3)), unknown)
                    self.assertNotEqual(outcome(open_pair, rule, policy, known, 3, 0), told)

    def test_two_unknown_replicas_are_never_too_many(self):
        for policy in (Sides(2, (0,) * 7), Table.of(Sides(2, (1,) * 7)), Copy(4, 7, 3)):
            known = (None, None) + FREE_7[1][:policy.replicas - 2]
            found = shown_rows(FREE_7, policy, known)
            self.assertEqual(len(found), 1 if policy.replicas == 4 else 128)
        self.assertEqual(shown_rows(FREE_7, Copy(6, 7, 2), (FREE_7[1][5],) * 6), (FREE_7[1][5],))


class Outlooks(unittest.TestCase):
    def test_what_a_replica_knows(self):
        chance = random.Random(160)
        for rule, policy, first in ((ATMOST, Sides(3, (0, 0, 0)), (0, 0, 1)), (IMPLY, Thresholds(3, (2, 2)), (0, 1)),
                                    (EVEN, Parity(3, 3), (0, 0, 0)), (FREE_1, Sides(6, (1,)), (0,))):
            store = Store(rule, policy, first)
            for _ in range(25):
                store.write(chance.randrange(policy.replicas), chance.choice(rule[1]))
                store.exchange(*chance.sample(range(policy.replicas), 2))
                before = (store.log, [store.outgoing(at) for at in range(policy.replicas)])
                replica = chance.randrange(policy.replicas)
                sealed = tuple(chance.randrange(policy.replicas) for _ in range(chance.randrange(5)))
                known = tuple(row if at in sealed else None for at, row in enumerate(store.known(replica)))
                expected = (settled(rule, policy, known), shown_rows(rule, policy, known))
                self.assertEqual(repr(outlook(store, replica, *sealed)), repr(expected))
                self.assertEqual((store.log, [store.outgoing(at) for at in range(policy.replicas)]), before)

    def test_one_that_is_not_sealed_can_change_its_own_row(self):
        store = Store(ATMOST, Sides(2, (0, 0, 0)), (0, 0, 1))
        self.assertEqual(outlook(store, 1, 0), ({0: 0, 1: 0}, ((0, 0, 0), (0, 0, 1))))
        self.assertEqual(outlook(store, 0, 1, 0, 1), ({0: 0, 1: 0, 2: 1}, ((0, 0, 1),)))
        self.assertEqual(outlook(store, 0), ({}, ATMOST[1]))
        store.write(0, (0, 0, 0))
        self.assertEqual(outlook(store, 1, 0)[1], ((0, 0, 0), (0, 0, 1)))
        self.assertEqual(outlook(store, 0, 0)[1], ((0, 0, 0),))

    def test_errors(self):
        store = Store(EVEN, Parity(3, 3), (0, 0, 0))
        wrong = NO_NUMBERS + (3, 6)
        check_errors(self, lambda *replicas: outlook(store, *replicas), (0, 2, 1), tuple((at, wrong, InvalidNumber) for at in range(3)))
        great = Store(FREE_7, Copy(3, 7, 0), FREE_7[1][9])
        self.assertEqual(outcome(outlook, great, 0), (TooLarge, {"limit": 20000}))
        self.assertEqual(outcome(outlook, great, 0, 3), (InvalidNumber, {"value": 3}))
        self.assertEqual(outcome(outlook, great, 3, 4), (InvalidNumber, {"value": 3}))
        self.assertEqual(len(outlook(great, 0, 0)[1]), 1)


class Errors(unittest.TestCase):
    NO_POLICIES = tuple(value for value in JUNK if not isinstance(value, Policy)) + (Copy(2, 2, 0), Copy(3, 4, 0), Policy)
    NO_KNOWLEDGE = JUNK + (
        (None, None), (None,) * 4, [None, None, None], ((0, 0, 1), (0, 0, 0), None), ((0, 0, True), None, None),
        ((0, 0), None, None), ([0, 0, 1], None, None), ("001", None, None), (0, None, None), (None, None, ()), (None, None, False),
        {0: None, 1: None, 2: None}, (None, None, (1, 1, 1)),
    )

    def test_all(self):
        asked = ((0, NO_RULES, InvalidRule), (1, self.NO_POLICIES, InvalidPolicy), (2, self.NO_KNOWLEDGE, InvalidRow))
        good = (ONE, Copy(3, 3, 0), ((0, 0, 1), None, None))
        check_errors(self, shown_rows, good, asked)
        check_errors(self, settled, good, asked)
        keys = (3, NO_NUMBERS + (3, 7), InvalidNumber)
        check_errors(self, open_replicas, good + (2,), asked + (keys,))
        check_errors(self, open_pair, good + (2, 1), asked + (keys, (4, NO_NUMBERS + (3, 6), InvalidNumber)))
        rows = (3, JUNK + ((0, 1), (0, 0, 2), (0, 0, True), [0, 0, 0], (0, 0, 0, 0)), InvalidRow)
        check_errors(self, completion, good + ((1, 1, 1),), asked + (rows,))
        check_errors(self, is_completion, good + ((1, 1, 1), None), asked + (rows,))

    def test_too_large_last(self):
        policy = Sides(3, (0,) * 7)
        for known in ((None,) * 2, (None,) * 3 + (None,), ((0,), None, None)):
            self.assertEqual(outcome(shown_rows, FREE_7, policy, known), (InvalidRow, {}))
        self.assertEqual(outcome(completion, FREE_7, policy, (None,) * 3, (0,)), (InvalidRow, {}))

    def test_policies_that_break_the_rule(self):
        self.assertEqual(shown_rows(ONE, Sides(2, (0, 0, 0)), (None, None)), ((0, 0, 0),) + ONE[1])


if __name__ == "__main__":
    unittest.main()
