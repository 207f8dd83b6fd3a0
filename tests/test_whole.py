"""What the document promises over the whole program: the main guarantee, and examples for what is not true."""

import random
import unittest
from itertools import product

from keywise.choices.arrows import closed_walk, components, is_walk
from keywise.choices.choices import Choice, choices, count_choices, wins_of
from keywise.decide.decide import copied_replica, decision, is_decision, judged
from keywise.errors import InvalidEdit, InvalidOperation
from keywise.lattice.lattice import Sides, all_sides, count_sides, fold, is_sides_paper, sides_paper
from keywise.levels.levels import is_order_paper, is_tension_paper, least_replicas, order_levels, order_paper, tension
from keywise.levels.levels import tension_paper, worst_patterns
from keywise.levels.thresholds import Thresholds, thresholds
from keywise.operations.operations import beside, both, fixed, groups, hidden, rearranged, turned, turned_policy
from keywise.parity.parity import Parity, equations, is_parity_paper, parity_paper
from keywise.patterns.patterns import is_pattern_paper, pattern_rows, patterns
from keywise.policies.policies import Copy, Table
from keywise.rules.rules import make_rule
from keywise.store.store import Store
from keywise.text.formats import format_rule, parse_policy, parse_rule
from keywise.workspace.workspace import Workspace
from tests.support import ATMOST, EVEN, IMPLY, ONE
from tests.support import brute_rows, brute_rules, counted_rules, outcome, sample_rules
from tests.test_rules import FREE_1

# Only the level 1/2 for some key gives thresholds that keep this rule.
HALF = make_rule(4, *[tuple(map(int, word)) for word in "0000 0001 0010 0100 0101 0111 1001 1100".split()])
RULES = brute_rules(1) + brute_rules(2) + brute_rules(3) + sample_rules(4, 60, 200) + counted_rules(4) + [HALF]
PAIRS = [(0, low, high, 1) for low in (0, 1) for high in (0, 1)]


class Guarantee(unittest.TestCase):
    def check(self, rule):
        size = rule[0]
        word = decision(rule)[0]
        walk = closed_walk(rule)
        kinds = sides_paper(rule), parity_paper(rule), order_paper(rule)
        self.assertTrue(is_decision(rule, decision(rule)))
        self.assertTrue(is_sides_paper(rule, kinds[0]) and is_parity_paper(rule, kinds[1]) and is_order_paper(rule, kinds[2]))
        self.assertTrue(is_tension_paper(rule, tension_paper(rule)))
        self.assertTrue(all(is_pattern_paper(rule, (each, pattern_rows(rule, each))) for each in patterns(rule)[:4]))
        self.assertEqual(word == "obstruction", walk is not None and kinds[1][0] == "rows")
        self.assertEqual(walk is not None, len(components(rule)) == 1)
        self.assertEqual(count_choices(rule) == 2, len(components(rule)) == 1)
        self.assertEqual(kinds[0][0] == "sides", count_sides(rule) > 0)
        self.assertEqual(kinds[1][0] == "equations", equations(rule) is not None)
        above, below = tension(rule)
        possible = [n for n in range(2, 7 if size < 4 else 5) if any(True for _ in thresholds(rule, n))]
        self.assertEqual(above <= below, possible != [])
        self.assertEqual(above <= below, least_replicas(rule) is not None)
        self.assertEqual(above <= below, 3 in possible)
        self.assertEqual(above < below, kinds[2][0] == "order")
        if above < below:
            self.assertGreater(count_sides(rule), 0)
            sums = worst_patterns(rule, order_levels(kinds[2][1]))[0]
            self.assertLess(sums[0], sums[1])
        if word == "obstruction":
            self.assertGreater(above, below)
            self.assertEqual((count_sides(rule), equations(rule)), (0, None))
        if len(groups(rule)) > 1:
            self.assertEqual(word, "policy")

    def test_all_stages_agree(self):
        for rule in RULES:
            self.check(rule)

    def test_choices_are_the_policies_for_two_replicas(self):
        for rule in RULES:
            if rule[0] < 4:
                keeping = [wins_of(Table(each)) for each in product(PAIRS, repeat=rule[0]) if Table(each).keeps(rule)]
                self.assertEqual(sorted(keeping), list(choices(rule)))

    def test_after_edits(self):
        chance = random.Random(201)
        for size in (2, 3, 4):
            space = Workspace(chance.choice([rule for rule in RULES if rule[0] == size]), least=Sides(2, (0,) * size), other=Parity(3, size))
            for _ in range(40):
                word = chance.choice(("forbid", "allow"))
                keys = sorted(chance.sample(range(size), chance.randrange(1, size + 1)))
                outcome(getattr(space, word), tuple((key, chance.randrange(2)) for key in keys))
                if chance.random() < 0.3:
                    space.undo(many=chance.randrange(len(space.log) + 1))
                self.check(space.rule)
                self.assertTrue(is_decision(space.rule, space.decision()))
                self.assertTrue(all(space.is_standing(name, space.standing(name)) for name in space.policies))
                self.assertEqual(space.patterns, patterns(space.rule))

    def test_what_follows_policies_through_changes(self):
        for rule in RULES[::9]:
            word, found = decision(rule)[:2]
            if word == "policy" and rule[0] > 1:
                for key in range(rule[0]):
                    left = tuple(other for other in range(rule[0]) if other != key)
                    self.assertTrue(found.on(left).keeps(hidden(rule, key)))
                    self.assertTrue(turned_policy(found, key).keeps(turned(rule, key)))
                    for bit in (0, 1):
                        if outcome(fixed, rule, key, bit) != (InvalidOperation, {}):
                            smaller, keys, _ = fixed(rule, key, bit)
                            self.assertTrue(found.on(keys).keeps(smaller))
                            self.assertLessEqual(fraction_of(tension(smaller)), fraction_of(tension(rule)))
                    self.assertLessEqual(fraction_of(tension(hidden(rule, key))), fraction_of(tension(rule)))
                order = tuple(range(rule[0]))[::-1]
                self.assertTrue(found.on(order).keeps(rearranged(rule, order)))

    def test_stores_of_decided_policies(self):
        chance = random.Random(202)
        for rule in RULES[::11]:
            word, policy = decision(rule)[:2]
            if word == "policy":
                store = Store(rule, policy, rule[1][0])
                messages = []
                for _ in range(20):
                    store.write(chance.randrange(policy.replicas), chance.choice(rule[1]))
                    messages.append(store.outgoing(chance.randrange(policy.replicas)))
                    store.deliver(chance.randrange(policy.replicas), chance.choice(messages))
                    self.assertTrue(all(store.shown(replica) in rule[1] for replica in range(policy.replicas)))
                store.exchange(*range(policy.replicas))
                self.assertTrue(store.agreed)
                self.assertEqual(len({store.shown(replica) for replica in range(policy.replicas)}), 1)

    def test_texts_lead_back(self):
        for rule in RULES[::7]:
            self.assertEqual(parse_rule(format_rule(rule)), rule)
            found = decision(rule)
            if found[0] == "policy":
                self.assertTrue(is_decision(rule, ("policy", parse_policy(str(found[1])))))


def fraction_of(pair):
    return pair[0] / pair[1]


class NotTrue(unittest.TestCase):
    def test_keeping_what_every_two_keys_allow(self):
        least = Sides(2, (0, 0, 0))
        for key in range(3):
            left = tuple(other for other in range(3) if other != key)
            self.assertTrue(least.on(left).keeps(hidden(EVEN, key)))
        self.assertFalse(least.keeps(EVEN))

    def test_merging_two_by_two(self):
        self.assertTrue(Parity(3, 3).keeps(EVEN))
        self.assertEqual(judged(EVEN, Parity(3, 3)), ("keeps",))
        for each in product(PAIRS, repeat=3):
            self.assertTrue(Table(each).copied() is not None or not Table(each).keeps(EVEN))
        choice, rows = Choice(1, ((0, 0), (0, 1))), ((0,), (1,))
        self.assertNotEqual(fold(choice, rows), fold(choice, rows[::-1]))

    def test_thresholds_for_two_or_for_more_replicas(self):
        self.assertEqual([n for n in range(2, 7) if list(thresholds(HALF, n))], [3, 5])
        self.assertTrue(any(Thresholds(3, numbers).keeps(HALF) for numbers in thresholds(HALF, 3)))

    def test_tension_of_at_most_one(self):
        self.assertEqual((tension(HALF), count_sides(HALF), least_replicas(HALF)), ((1, 1), 0, 3))

    def test_intersections(self):
        some = (3, tuple(brute_rows(3)[1:]))
        self.assertEqual([decision(rule)[0] for rule in (ATMOST, some)], ["policy", "policy"])
        self.assertEqual(both(ATMOST, some), (ONE, (0, 1, 2), {}))
        self.assertEqual(decision(ONE)[0], "obstruction")

    def test_policies_that_copy_when_a_key_is_hidden_or_fixed(self):
        rule = beside(FREE_1, FREE_1)
        policy = Choice(2, ((0, 0), (0, 1)))
        self.assertEqual(judged(rule, policy), ("keeps",))
        self.assertEqual(judged(hidden(rule, 0), policy.on((1,))), ("copies", 1))
        self.assertEqual(judged(fixed(rule, 1, 0)[0], policy.on((0,))), ("copies", 0))

    def test_following_a_replica_at_some_key(self):
        rule = beside(ONE, FREE_1)
        self.assertEqual((decision(rule)[0], hidden(rule, 3)), ("policy", ONE))
        self.assertEqual(decision(ONE)[0], "obstruction")
        seen = 0
        for each in product(PAIRS, repeat=4):
            if Table(each).keeps(rule):
                seen += 1
                self.assertIn(copied_replica(ONE, Table(each).on((0, 1, 2))), (0, 1))
        self.assertEqual(seen, 8)
        for policy in (Sides(3, (0,) * 4), Thresholds.majority(4), Parity(3, 4), Parity(5, 4), Thresholds(5, (2, 3, 3, 4))):
            self.assertFalse(policy.keeps(rule))
        mixed = Table(Copy(3, 3, 2).functions + Thresholds.majority(1).functions)
        self.assertEqual(judged(rule, mixed), ("keeps",))

    def test_imply_again(self):
        space = Workspace(IMPLY, least=Sides(2, (0, 0)))
        self.assertEqual(outcome(space.forbid, ((0, 0),)), (InvalidEdit, {}))
        self.assertEqual([sides for sides in all_sides(space.rule)], [(0, 0), (0, 1), (1, 1)])
        self.assertTrue(is_walk(IMPLY, order_paper(ONE)[1]) is False and is_walk(ONE, order_paper(ONE)[1]))


if __name__ == "__main__":
    unittest.main()
