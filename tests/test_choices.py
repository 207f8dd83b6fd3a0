"""Stage 6: choices."""

import random
import unittest
from itertools import chain, combinations, product

from keywise.choices.choices import Choice, choices, count_choices, greatest_choice, is_choice, least_choice, wins_of
from keywise.errors import InvalidNumber, InvalidPartial, InvalidPolicy, InvalidRule
from keywise.levels.thresholds import Thresholds
from keywise.parity.parity import Parity
from keywise.policies.policies import Copy, Policy, Table
from tests import brute
from tests.support import ATMOST, EVEN, IMPLY, JUNK, NO_SIZES, ONE, POLICIES
from tests.support import brute_rules, check_accepted, check_errors, counted_rules, mutants, sample_rules
from tests.test_arrows import CYCLES, EQUAL, NO_LITERALS
from tests.test_rules import FREE_1, FREE_7, LAST_7, NO_RULES

RULES = brute_rules(1) + brute_rules(2) + brute_rules(3)[::4] + sample_rules(4, 12, 41)
LARGE = sample_rules(5, 5, 42) + sample_rules(6, 4, 43) + sample_rules(7, 5, 44) + counted_rules(7)[4::40] + [LAST_7]


def subsets(values):
    values = list(values)
    return chain.from_iterable(combinations(values, many) for many in range(len(values) + 1))


def is_closed(rule, literals):
    return all(second in literals for first, second in brute.arrows(rule) if first in literals)


def all_choices(rule):
    return sorted(literals for literals in subsets(brute.literals(rule[0])) if is_closed(rule, literals))


class Wins(unittest.TestCase):
    def test_every_policy_of_small_sizes(self):
        for size in (1, 2, 3):
            for literals in subsets(brute.literals(size)):
                choice = Choice(size, literals)
                self.assertEqual((choice.size, choice.replicas), (size, 2))
                self.assertEqual(repr(choice.wins), repr(literals))
                self.assertEqual(repr(wins_of(choice)), repr(literals))
                for key in range(size):
                    expected = tuple(
                        a if (key, a) in literals or a == b else b for a, b in product((0, 1), repeat=2)
                    )
                    self.assertEqual(repr(choice[key]), repr(expected))

    def test_every_table(self):
        for size in (1, 2, 3, 4):
            seen = set()
            for functions in product(brute.functions(2), repeat=size):
                expected = tuple((key, bit) for key, bit in brute.literals(size)
                                 if functions[key][int(f"{bit}{1 - bit}", 2)] == bit)
                found = wins_of(Table(functions))
                self.assertEqual(repr(found), repr(expected))
                self.assertEqual(Choice(size, found), Table(functions))
                seen.add(found)
            self.assertEqual(len(seen), 4 ** size)

    def test_exchanged_replicas(self):
        for literals in subsets(brute.literals(2)):
            choice = Choice(2, literals)
            exchanged = Table(tuple((f[0], f[2], f[1], f[3]) for f in choice.functions))
            expected = {brute.opposite(literal) for literal in brute.literals(2) if literal not in literals}
            self.assertEqual(wins_of(exchanged), tuple(sorted(expected)))

    def test_other_policies(self):
        self.assertEqual(wins_of(Copy(2, 2, 0)), ((0, 0), (0, 1), (1, 0), (1, 1)))
        self.assertEqual(wins_of(Copy(2, 7, 1)), ())
        self.assertEqual(wins_of(Thresholds(2, (2, 1))), ((0, 0), (1, 1)))

    def test_texts(self):
        self.assertEqual(str(Choice(3, ((0, 1), (2, 0)))), "choice of 3 keys: 0=1 2=0")
        self.assertEqual(str(Choice(1, ())), "choice of 1 keys: none")
        self.assertEqual(str(Choice(7, ((0, 0), (0, 1), (6, 1)))), "choice of 7 keys: 0=0 0=1 6=1")

    def test_wins_cannot_be_assigned(self):
        choice = Choice(2, ((0, 1),))
        with self.assertRaises(AttributeError):
            choice.wins = ()
        self.assertEqual(choice.wins, ((0, 1),))


class Keeping(unittest.TestCase):
    def test_a_policy_keeps_the_rule_exactly_if_its_wins_are_a_choice(self):
        for rule in RULES + [ONE, EVEN, ATMOST, EQUAL, CYCLES]:
            for literals in subsets(brute.literals(rule[0])) if rule[0] < 4 else self.some(rule, 60):
                self.check(rule, literals)

    def test_great_rules(self):
        for rule in LARGE:
            for literals in self.some(rule, 6):
                self.check(rule, literals)

    def some(self, rule, many):
        chance = random.Random(rule[0])
        found = [tuple(each for each in brute.literals(rule[0]) if chance.randrange(2)) for _ in range(many)]
        return found + list(choices(rule))[:40:5] + [(), tuple(brute.literals(rule[0]))]

    def check(self, rule, literals):
        choice = Choice(rule[0], literals)
        broken = brute.broken(choice, rule)
        self.assertIs(is_choice(rule, literals), is_closed(rule, literals))
        self.assertIs(choice.keeps(rule), not broken)
        self.assertIs(choice.keeps(rule), is_choice(rule, literals))
        told = choice.broken_merge(rule)
        self.assertTrue(told in broken if broken else told is None)


class Choices(unittest.TestCase):
    def test_complete_and_ascending(self):
        for rule in RULES + [ONE, EVEN, ATMOST, EQUAL, CYCLES, IMPLY, FREE_1]:
            expected = all_choices(rule)
            self.assertEqual(repr(list(choices(rule))), repr(expected))
            self.assertEqual(repr(count_choices(rule)), repr(len(expected)))

    def test_great_rules(self):
        for rule in LARGE:
            found = list(choices(rule))
            self.assertEqual(sorted(set(found)), found)
            self.assertTrue(all(is_closed(rule, literals) for literals in found[:200]))
            self.assertEqual(count_choices(rule), len(found))
            self.assertIs(len(found) > 2, len(self.components(rule)) > 1)
        self.assertEqual(count_choices(FREE_7), 4 ** 7)
        self.assertEqual(list(choices(FREE_7)), sorted(subsets(brute.literals(7))))

    def components(self, rule):
        steps = brute.distances(rule)
        return {frozenset(y for y in brute.literals(rule[0]) if (x, y) in steps and (y, x) in steps)
                for x in brute.literals(rule[0])}

    def test_copies_are_always_there(self):
        for rule in RULES[::3] + LARGE:
            self.assertIs(is_choice(rule, ()), True)
            self.assertIs(is_choice(rule, tuple(brute.literals(rule[0]))), True)

    def test_two_generators_at_once(self):
        first, second = choices(ATMOST), choices(ATMOST)
        expected = all_choices(ATMOST)
        self.assertEqual([next(first), next(first), next(second)], expected[:2] + expected[:1])
        self.assertEqual(list(choices(ATMOST)), expected)
        self.assertEqual([list(second), list(first)], [expected[1:], expected[2:]])

    def test_is_choice_with_wrong_values(self):
        for rule in (IMPLY, ONE, ATMOST, EQUAL):
            right = {repr(literals) for literals in all_choices(rule)}
            values = JUNK + tuple(mutants(tuple(brute.literals(rule[0])))) + tuple(mutants(all_choices(rule)[1]))
            values += (((1, 0), (0, 0)), ((0, 0), (0, 0)), ((0, True),), ((5, 0),), [], [(0, 1)])
            check_accepted(self, lambda value: is_choice(rule, value), right, values)


class LeastAndGreatest(unittest.TestCase):
    def check(self, rule, wanted, unwanted):
        fitting = [set(literals) for literals in all_choices(rule)
                   if set(wanted) <= set(literals) and not set(unwanted) & set(literals)]
        least = tuple(sorted(set.intersection(*fitting))) if fitting else None
        greatest = tuple(sorted(set.union(*fitting))) if fitting else None
        self.assertEqual(repr(least_choice(rule, wanted=wanted, unwanted=unwanted)), repr(least))
        self.assertEqual(repr(greatest_choice(rule, unwanted=unwanted, wanted=wanted)), repr(greatest))

    def test_any_literals(self):
        chance = random.Random(51)
        for rule in brute_rules(1) + brute_rules(2)[::2] + [ONE, EVEN, ATMOST, EQUAL, CYCLES] + RULES[20::6]:
            literals = brute.literals(rule[0])
            for _ in range(12):
                wanted = tuple(chance.choice(literals) for _ in range(chance.randrange(3)))
                unwanted = tuple(chance.choice(literals) for _ in range(chance.randrange(3)))
                self.check(rule, wanted, unwanted)
                self.check(rule, wanted[::-1] + wanted, unwanted + unwanted[::-1])

    def test_left_out(self):
        for rule in (IMPLY, ONE, ATMOST, FREE_7):
            self.assertEqual(least_choice(rule), ())
            self.assertEqual(greatest_choice(rule), tuple(brute.literals(rule[0])))
            self.assertEqual(least_choice(rule, wanted=()), ())
            self.assertEqual(greatest_choice(rule, unwanted=()), tuple(brute.literals(rule[0])))

    def test_none(self):
        self.assertIsNone(least_choice(IMPLY, wanted=((0, 1),), unwanted=((0, 1),)))
        self.assertIsNone(greatest_choice(IMPLY, wanted=((0, 1),), unwanted=((1, 1),)))
        self.assertIsNone(greatest_choice(ONE, wanted=((0, 1),), unwanted=((2, 0),)))

    def test_great_rules(self):
        for rule in LARGE:
            steps = brute.distances(rule)
            for literal in brute.literals(rule[0])[::3]:
                above = tuple(sorted(last for first, last in steps if first == literal))
                below = [first for first, last in steps if last == literal]
                self.assertEqual(least_choice(rule, wanted=(literal,)), above)
                expected = tuple(each for each in brute.literals(rule[0]) if each not in below)
                self.assertEqual(greatest_choice(rule, unwanted=(literal,)), expected)


class Errors(unittest.TestCase):
    def test_wrong_choices(self):
        wrong = tuple(value for value in JUNK if value != ()) + (
            ((0, 1), (0, 0)), ((0, 0), (0, 0)), ((1, 0), (0, 1)), ((3, 0),), ((0, 2),), ((0, True),), ((True, 0),),
            [(0, 1)], [], {(0, 1): 1}, ((0, 1), None), (0, 1), ((0, 1, 0),), ((0, 1), (-1, 0)),
        )
        check_errors(self, Choice, (3, ((0, 1),)), ((0, NO_SIZES, InvalidNumber), (1, wrong, InvalidPolicy)))

    def test_wrong_policies(self):
        wrong = tuple(value for value in JUNK if not isinstance(value, Policy)) + (
            Copy(3, 2, 0), Parity(3, 2), Thresholds(6, (1,)), Table, ((0, 1),),
        ) + tuple(policy for policy in POLICIES if policy.replicas != 2)
        check_errors(self, wins_of, (Copy(2, 2, 0),), ((0, wrong, InvalidPolicy),))

    def test_wrong_rules(self):
        for call in (lambda rule: list(choices(rule)), count_choices, lambda rule: is_choice(rule, ()), least_choice,
                     greatest_choice):
            check_errors(self, call, (ONE,), ((0, NO_RULES, InvalidRule),))

    def test_wrong_literals(self):
        single = tuple((value,) for value in NO_LITERALS)
        wrong = tuple(value for value in JUNK if value != ()) + single + tuple(((0, 0),) + value for value in single)
        wrong += ([(0, 1)], {(0, 1): 1}, (0, 1), [])
        for call in (least_choice, greatest_choice):
            check_errors(self, lambda rule, wanted, unwanted: call(rule, wanted=wanted, unwanted=unwanted),
                         (ONE, ((0, 1),), ()),
                         ((0, NO_RULES, InvalidRule), (1, wrong, InvalidPartial), (2, wrong, InvalidPartial)))

    def test_the_generator_raises_when_the_first_result_is_asked_for(self):
        generator = choices(None)
        with self.assertRaises(InvalidRule):
            next(generator)


if __name__ == "__main__":
    unittest.main()
