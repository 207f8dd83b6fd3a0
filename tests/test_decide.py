"""Stage 11: the decision."""

import random
import unittest
from itertools import combinations, product

from keywise.choices.arrows import closed_walk, walk
from keywise.choices.choices import Choice
from keywise.decide.decide import copied_replica, decision, is_decision, is_judgement, judged
from keywise.errors import Broken, InvalidOperation, InvalidPolicy, InvalidRule, TooLarge
from keywise.lattice.lattice import Sides
from keywise.levels.thresholds import Thresholds
from keywise.parity.parity import Parity
from keywise.policies.policies import Copy, Policy, Table
from tests import brute
from tests.support import ATMOST, EVEN, IMPLY, JUNK, ONE
from tests.support import brute_rows, brute_rules, check_errors, counted_rules, mutants, outcome, policies_of
from tests.support import random_function, rule_with_rows, sample_rules
from tests.test_rules import FREE_1, FREE_7, LAST_7, NO_RULES

SMALL = brute_rules(1) + brute_rules(2) + brute_rules(3)
MIDDLE = sample_rules(4, 150, 110) + counted_rules(4)
LARGE = counted_rules(5)[::3] + sample_rules(6, 4, 111) + sample_rules(7, 4, 112) + counted_rules(7)[::25] + [
    LAST_7, FREE_7, (7, FREE_7[1][1:]),
]
# The most rows for which Tables for so many replicas are small.
MOST_ROWS = {3: 27, 4: 11, 5: 7, 6: 5}


def wrong_sums(rule):
    return [rows for rows in combinations(rule[1], 3) if tuple(sum(bits) % 2 for bits in zip(*rows)) not in rule[1]]


def has_obstruction(rule):
    """By the definition: walks between each two literals, and three rows whose sum is not valid."""
    every = brute.literals(rule[0])
    return all((first, last) in brute.distances(rule) for first in every for last in every) and bool(wrong_sums(rule))


def is_right(rule, value):
    """Whether the value is a decision, by its parts."""
    if type(value) is not tuple or not value:
        return False
    if repr(value[0]) == "'policy'" and len(value) == 2 and isinstance(value[1], Policy):
        policy = value[1]
        if policy.size != rule[0] or copies(policy) is not None:
            return False
        if type(policy) is Table and len(rule[1]) ** policy.replicas > 20000:
            return False
        return not breaks(policy, rule)
    if repr(value[0]) != "'obstruction'" or len(value) != 3 or not brute.is_closed_walk(rule, value[1]):
        return False
    known = {repr(row) for row in rule[1]}
    if type(value[2]) is not tuple or len(value[2]) != 3 or not all(repr(row) in known for row in value[2]):
        return False
    passed = {literal for literal, _ in value[1]}
    return len(passed) == 2 * rule[0] and tuple(sum(bits) % 2 for bits in zip(*value[2])) not in rule[1]


def copies(policy):
    """The replica that the policy copies, or None, by all its results."""
    for replica in range(policy.replicas):
        results = [bits[replica] for bits in product((0, 1), repeat=policy.replicas)]
        if all(list(function) == results for function in policy.functions):
            return replica
    return None


def breaks(policy, rule):
    """Whether the policy breaks the rule, by the rows that the first replicas leave to the others."""
    places = {bits: at for at, bits in enumerate(product((0, 1), repeat=policy.replicas))}
    begun = {tuple(() for _ in range(policy.size))}
    for _ in range(policy.replicas):
        begun = {tuple(bits + (bit,) for bits, bit in zip(each, row)) for each in begun for row in rule[1]}
    valid = set(rule[1])
    return any(tuple(function[places[bits]] for function, bits in zip(policy.functions, each)) not in valid
               for each in begun)


def kept_by_least(many):
    """Return a rule with so many rows that minimum keeps."""
    size = min(many - 1, 7)
    rows = {(0,) * size} | {tuple(int(at == key) for at in range(size)) for key in range(size)}
    for row in brute_rows(size):
        more = rows | {row}
        if len(rows) < many and all(tuple(min(bits) for bits in zip(row, other)) in more for other in rows):
            rows = more
    return (size, tuple(sorted(rows)))


class Decisions(unittest.TestCase):
    def test_a_policy_or_an_obstruction(self):
        kinds = {"policy": 0, "obstruction": 0}
        for rule in SMALL + MIDDLE:
            found = decision(rule)
            self.assertEqual(found[0], "obstruction" if has_obstruction(rule) else "policy", rule)
            self.assertTrue(is_right(rule, found), (rule, found))
            self.assertTrue(is_decision(rule, found))
            self.assertEqual(decision(rule), found)
            kinds[found[0]] += 1
        self.assertGreater(min(kinds.values()), 20)

    def test_larger_rules(self):
        for rule in LARGE:
            found = decision(rule)
            self.assertEqual(found[0], "obstruction" if has_obstruction(rule) else "policy", rule)
            self.assertTrue(is_decision(rule, found))
            if found[0] == "obstruction":
                self.assertTrue(is_right(rule, found))
            else:
                self.assertIsNone(copies(found[1]))
                self.assertNotIsInstance(found[1], Table)
                self.assertIsNone(found[1].broken_merge(rule))

    def test_two_replica_policies_of_rules_with_an_obstruction(self):
        functions = [(0, low, high, 1) for low in (0, 1) for high in (0, 1)]
        for rule in SMALL:
            keeping = [each for each in product(functions, repeat=rule[0]) if Table(each).keeps(rule)]
            copying = [each for each in keeping if Table(each).copied() is not None]
            if decision(rule)[0] == "obstruction":
                self.assertEqual(keeping, copying)
            elif all(keeping) and keeping == copying:
                self.assertTrue(Parity(3, rule[0]).keeps(rule))

    def test_any_policy_that_fits(self):
        chance = random.Random(113)
        for rule in [IMPLY, ONE, EVEN, ATMOST, FREE_1] + SMALL[::9] + MIDDLE[::30]:
            for policy in policies_of(rule[0], chance, (2, 3)) + policies_of(rule[0], chance, (2, 3, 4)):
                if len(rule[1]) ** policy.replicas > 5000:
                    continue
                for value in (("policy", policy), ("policy", Table.of(policy))):
                    self.assertIs(is_decision(rule, value), is_right(rule, value), (rule, str(policy)))
        self.assertTrue(is_decision(EVEN, ("policy", Parity(5, 3))))
        self.assertTrue(is_decision(EVEN, ("policy", Table.of(Parity(3, 3)))))
        self.assertTrue(is_decision(FREE_7, ("policy", Thresholds.majority(7, replicas=5))))

    def test_policies_that_do_not_fit(self):
        for policy in (Copy(2, 2, 0), Table.of(Copy(3, 2, 1)), Choice(2, ()), Sides(2, (1, 0)), Sides(2, (0, 0, 0)),
                       Sides(2, (0,)), Choice(2, ((0, 0), (0, 1), (1, 0), (1, 1)))):
            self.assertIs(is_decision(IMPLY, ("policy", policy)), False)
        for policy in (Sides(3, (0, 0)), Sides(6, (1, 1)), Table.of(Sides(6, (1, 1)))):
            self.assertIs(is_decision(IMPLY, ("policy", policy)), True)
            for value in (["policy", policy], ("policy",), ("policy", policy, policy), (policy, "policy"), policy,
                          ("Policy", policy), ("obstruction", policy), (None, policy), ("policy", (policy,)),
                          ("policy", [policy]), ("obstruction", policy, policy), {"policy": policy}, ("policy", str(policy))):
                self.assertIs(is_decision(IMPLY, value), False)

    def test_tables_must_be_small(self):
        for n, most in MOST_ROWS.items():
            for many in (most, most + 1):
                rule = kept_by_least(many)
                policy = Sides(n, (0,) * rule[0])
                self.assertEqual((len(rule[1]), policy.keeps(rule)), (many, True))
                self.assertIs(is_decision(rule, ("policy", policy)), True)
                self.assertIs(is_decision(rule, ("policy", Table.of(policy))), many == most, (n, many))

    def test_walks_and_rows_that_fit(self):
        chance = random.Random(114)
        for rule in [each for each in SMALL + MIDDLE[::10] if has_obstruction(each)]:
            once = closed_walk(rule)
            twice = once[:-1] + once
            begun = chance.randrange(len(once) - 1)
            elsewhere = once[begun:-1] + once[:begun] + ((once[begun][0], None),)
            for rows in wrong_sums(rule)[:3]:
                for each in (rows, rows[::-1], rows[1:] + rows[:1]):
                    for way in (once, twice, elsewhere):
                        self.assertIs(is_decision(rule, ("obstruction", way, each)), True)
            right = next(rows for rows in product(rule[1], repeat=3)
                         if tuple(sum(bits) % 2 for bits in zip(*rows)) in rule[1])
            self.assertIs(is_decision(rule, ("obstruction", once, right)), False)

    def test_walks_that_do_not_fit(self):
        every = [each for each in SMALL + MIDDLE if each[0] > 2 and not has_obstruction(each) and wrong_sums(each)]
        for rule in every[::12]:
            rows = wrong_sums(rule)[0]
            for first, last in product(brute.literals(rule[0]), repeat=2):
                if (first, last) in brute.distances(rule) and (last, first) in brute.distances(rule) and first < last:
                    way = walk(rule, first, last)[:-1] + walk(rule, last, first)
                    self.assertTrue(brute.is_closed_walk(rule, way))
                    self.assertIs(is_decision(rule, ("obstruction", way, rows)), False)
        self.assertIs(is_decision(EVEN, ("obstruction", closed_walk(EVEN), EVEN[1][:3])), False)
        literal = ((0, 0), None)
        self.assertIs(is_decision(ONE, ("obstruction", (literal,), ONE[1])), False)

    def test_one_part_changed(self):
        for rule, step in ((ONE, 5), (SMALL[-40], 11), ((4, MIDDLE[0][1]), 37)):
            found = decision(rule)
            if found[0] == "policy":
                continue
            for at, value in enumerate(mutants(found)):
                if at % step == 0:
                    self.assertIs(is_decision(rule, value), is_right(rule, value), (rule, value))

    def test_any_value(self):
        for rule in (IMPLY, ONE, EVEN):
            for value in JUNK + tuple(("policy", each) for each in JUNK if not isinstance(each, Policy)):
                self.assertIs(is_decision(rule, value), False)
            for each in JUNK:
                self.assertIs(is_decision(rule, ("obstruction", each, ONE[1])), False)
                self.assertIs(is_decision(rule, ("obstruction", closed_walk(ONE), each)), False)


class Judgements(unittest.TestCase):
    def check(self, rule, policy):
        copied = copies(policy)
        found = judged(rule, policy)
        if copied is not None:
            self.assertEqual(repr(found), repr(("copies", copied)))
        elif breaks(policy, rule):
            self.assertEqual((len(found), found[0]), (2, "breaks"))
            self.assertTrue(brute.is_broken_merge(policy, rule, found[1]))
        else:
            self.assertEqual(found, ("keeps",))
        for value in (found, ("keeps",), ("copies", copied or 0), ("breaks", rule[1][:1] * policy.replicas)):
            self.assertIs(is_judgement(rule, policy, value), repr(value) == repr(found))
        return found[0]

    def test_all_classes(self):
        chance = random.Random(115)
        words = []
        for rule in [IMPLY, ONE, EVEN, ATMOST, FREE_1] + SMALL[::11] + MIDDLE[::30]:
            for n in range(2, 7):
                fitting = [each for each in policies_of(rule[0], chance, (n,)) if len(rule[1]) ** each.replicas < 1500]
                words += [self.check(rule, policy) for policy in fitting]
        for word in ("copies", "keeps", "breaks"):
            self.assertGreater(words.count(word), 25)

    def test_policies_that_keep(self):
        for rule in (IMPLY, FREE_1, ATMOST, EVEN):
            for policy in (Sides(6, (0,) * rule[0]), Choice(rule[0], ((0, 1),)), Parity(5, rule[0]), Parity(3, rule[0]),
                           Thresholds(4, (2,) * rule[0]), Table.of(Sides(4, (0,) * rule[0]))):
                self.check(rule, policy)

    def test_large_rules(self):
        chance = random.Random(116)
        for rule in LARGE:
            for policy in policies_of(rule[0], chance) + policies_of(rule[0], chance):
                found = outcome(judged, rule, policy)
                if type(policy) is Table and policy.copied() is None and len(rule[1]) ** policy.replicas > 20000:
                    self.assertEqual(found, (TooLarge, {"limit": 20000}))
                else:
                    self.assertEqual(is_judgement(rule, policy, found), True)
                    self.assertEqual(found[0] == "breaks", not policy.keeps(rule) if found[0] != "copies" else False)

    def test_other_broken_rows(self):
        chance = random.Random(117)
        for rule in (IMPLY, ONE, ATMOST, EVEN):
            for policy in policies_of(rule[0], chance, (2, 3)) + policies_of(rule[0], chance, (3,)):
                wrong = set(brute.broken(policy, rule))
                rows_of_size = brute_rows(rule[0])
                tried = chance.sample(sorted(wrong), min(len(wrong), 60)) + [
                    tuple(chance.choice(rows_of_size) for _ in range(policy.replicas)) for _ in range(60)
                ]
                for rows in tried:
                    self.assertIs(is_judgement(rule, policy, ("breaks", rows)), rows in wrong)

    def test_one_part_changed(self):
        for rule, policy in ((ONE, Thresholds.majority(3)), (ONE, Sides(2, (0, 0, 0))), (IMPLY, Copy(3, 2, 1)),
                             (ATMOST, Sides(3, (0, 0, 0))), (IMPLY, Table.of(Copy(2, 2, 1))), (ATMOST, Parity(3, 3))):
            found = judged(rule, policy)
            right = [repr(found)] if found[0] != "breaks" else [repr(("breaks", rows)) for rows in brute.broken(policy, rule)]
            values = list(mutants(found)) + [found] + list(JUNK) + [("breaks", each) for each in JUNK]
            values += [("copies", each) for each in JUNK + (0, 1, 2)] + [(found[0],), found + (1,), ("keeps", None), ("breaks",)]
            for value in values:
                self.assertIs(is_judgement(rule, policy, value), repr(value) in right, (value, found))

    def test_too_large(self):
        for n, most in MOST_ROWS.items():
            size = 3 if n > 4 else 6
            chance = random.Random(n)
            for many in (most, most + 1):
                rule = rule_with_rows(size, many, n)
                table = Table(tuple(random_function(chance, n) for _ in range(size)))
                copying = Table.of(Copy(n, size, n - 1))
                told = (TooLarge, {"limit": 20000})
                for value in (("keeps",), None):
                    found = outcome(is_judgement, rule, table, value)
                    self.assertEqual(found, told) if many > most else self.assertIn(found, (True, False))
                found = outcome(judged, rule, table)
                self.assertEqual(found == told, many > most)
                if many == most:
                    self.assertEqual(found[0], "breaks" if breaks(table, rule) else "keeps")
                self.assertEqual(judged(rule, copying), ("copies", n - 1))
                self.assertIs(is_judgement(rule, copying, ("copies", n - 1)), True)
                self.assertIn(judged(rule, Sides(n, (1,) * size))[0], ("keeps", "breaks"))
        full = (2, tuple(brute_rows(2)))
        for n in range(2, 7):
            self.assertEqual(judged(full, Table.of(Sides(n, (0, 1)))), ("keeps",))
        self.assertEqual(judged(FREE_7, Table.of(Sides(2, (0, 1) * 3 + (1,)))), ("keeps",))


class Copied(unittest.TestCase):
    def test_policies_that_keep_rules_with_an_obstruction(self):
        chance = random.Random(118)
        for rule in [each for each in SMALL[::3] + MIDDLE[::15] + LARGE if has_obstruction(each)]:
            for n in (2, 3, chance.choice((4, 5, 6))):
                for policy in policies_of(rule[0], chance, (n,)):
                    found = outcome(copied_replica, rule, policy)
                    if copies(policy) is not None:
                        self.assertEqual(repr(found), repr(copies(policy)))
                    elif type(policy) is Table and len(rule[1]) ** n > 20000:
                        self.assertEqual(found, (TooLarge, {"limit": 20000}))
                    else:
                        self.assertIs(found[0], Broken)
                        self.assertTrue(brute.is_broken_merge(policy, rule, found[1]["rows"]))

    def test_rules_without_an_obstruction(self):
        chance = random.Random(119)
        for rule in SMALL[::7] + MIDDLE[::15] + [FREE_7]:
            if not has_obstruction(rule):
                for policy in policies_of(rule[0], chance) + [Table.of(Sides(6, (0,) * rule[0]))]:
                    self.assertEqual(outcome(copied_replica, rule, policy), (InvalidOperation, {}))


class Errors(unittest.TestCase):
    NO_POLICIES = tuple(value for value in JUNK if not isinstance(value, Policy) or value.size != 3) + (
        Copy(2, 2, 0), Sides(3, (0, 1)), Choice(4, ()), Parity(3, 2), Table(((0, 0, 0, 1),)), Policy, "copy 0 of 2 for 3 keys",
    )

    def test_decisions(self):
        check_errors(self, decision, (ONE,), ((0, NO_RULES, InvalidRule),))
        check_errors(self, is_decision, (ONE, None), ((0, NO_RULES, InvalidRule),))

    def test_judgements(self):
        asked = ((0, NO_RULES, InvalidRule), (1, self.NO_POLICIES, InvalidPolicy))
        check_errors(self, judged, (ONE, Copy(2, 3, 0)), asked)
        check_errors(self, is_judgement, (ONE, Copy(2, 3, 0), None), asked)
        check_errors(self, copied_replica, (ONE, Copy(2, 3, 0)), asked)

    def test_policies_before_obstructions(self):
        for rule in (IMPLY, EVEN, FREE_7):
            for policy in JUNK + (Copy(2, 5, 0),):
                if not isinstance(policy, Policy) or policy.size != rule[0]:
                    self.assertEqual(outcome(copied_replica, rule, policy), (InvalidPolicy, {}))

    def test_obstruction_before_size_before_broken(self):
        great = rule_with_rows(7, 60, 5)
        table = Table.of(Sides(3, (0,) * 7))
        self.assertEqual(decision(FREE_7)[0], "policy")
        self.assertEqual(outcome(copied_replica, FREE_7, table), (InvalidOperation, {}))
        self.assertEqual(decision(great)[0], "obstruction")
        self.assertEqual(outcome(copied_replica, great, table), (TooLarge, {"limit": 20000}))
        self.assertEqual(outcome(copied_replica, great, Sides(3, (0,) * 7))[0], Broken)
        self.assertEqual(outcome(copied_replica, great, Table.of(Copy(3, 7, 2))), 2)


if __name__ == "__main__":
    unittest.main()
