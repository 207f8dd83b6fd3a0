"""Stage 8: levels and tension."""

import random
import unittest
from fractions import Fraction
from itertools import permutations, product

from keywise.errors import InvalidLevels, InvalidNumber, InvalidPartial, InvalidRule
from keywise.levels.levels import falsity_sum, is_levels, is_order_paper, is_tension_paper, least_replicas, numbers_for
from keywise.levels.levels import order_levels, order_paper, tension, tension_paper, worst_patterns
from keywise.levels.thresholds import Thresholds, thresholds
from tests import brute
from tests.support import ATMOST, EVEN, IMPLY, JUNK, NO_SIZES, ONE
from tests.support import brute_partials, brute_rows, brute_rules, check_accepted, check_errors, counted_rules, mutants
from tests.support import sample_rules
from tests.test_arrows import CYCLES, EQUAL
from tests.test_policies import NO_NUMBERS
from tests.test_rules import FREE_1, FREE_7, LAST_7, NO_RULES

SMALL = brute_rules(1) + brute_rules(2) + brute_rules(3)[::2] + [ONE, EVEN, ATMOST, EQUAL, CYCLES]
MIDDLE = sample_rules(4, 40, 71) + sample_rules(5, 12, 72)
LARGE = sample_rules(6, 6, 73) + sample_rules(7, 10, 74) + counted_rules(7)[::17] + [LAST_7, FREE_7]
W = ((((0, 0), (1, 0), (2, 0)), 2), (((0, 1), (1, 1)), 1), (((0, 1), (2, 1)), 1), (((1, 1), (2, 1)), 1))
NO_LEVELS = JUNK + (
    ((2, 4),), ((1, 1), (2, 2)), ((-1, 2),), ((3, 2),), ((0, 2),), ((1, 0),), ((1, -1),), ((True, 1),), ((0, True),),
    ((1,),), ((1, 2, 3),), ([1, 2],), [(1, 2)], (None,), ((0, 0),), ((-1, -2),), (1, 2), ((0, 1), None), ((0, "1"),),
    ((10 ** 39, 10 ** 39),), ((10 ** 39, 1),), {(0, 1): 1}, ((-1, 1),), ((2, 1),),
)


def pair(fraction):
    return (fraction.numerator, fraction.denominator)


def falsity(levels, partial):
    """The falsity sum as a Fraction."""
    return sum((1 - Fraction(*levels[key]) if bit else Fraction(*levels[key]) for key, bit in partial), Fraction(0))


def number_shown(size, weights):
    heavy = {literal: sum(number for pattern, number in weights if literal in pattern)
             for literal in brute.literals(size)}
    smaller = sum(min(heavy[key, 0], heavy[key, 1]) for key in range(size))
    return Fraction(smaller, sum(number for _, number in weights)) if weights else Fraction(0)


def is_paper(rule, value):
    """Whether the value is a tension paper, by the document's words."""
    size, _ = rule
    if type(value) is not tuple or len(value) != 3 or not is_fraction(value[0]):
        return False
    number, levels, weights = value
    if type(levels) is not tuple or len(levels) != size or not all(is_fraction(level) for level in levels):
        return False
    if not all(0 <= Fraction(*level) <= 1 for level in levels):
        return False
    known = {repr(pattern) for pattern in brute.patterns(rule)}
    if type(weights) is not tuple or (not weights and known):
        return False
    for weight in weights:
        if type(weight) is not tuple or len(weight) != 2 or repr(weight[0]) not in known:
            return False
        if type(weight[1]) is not int or weight[1] < 1:
            return False
    if any(first[0] >= second[0] for first, second in zip(weights, weights[1:])):
        return False
    worst = max((falsity(levels, pattern) for pattern in brute.patterns(rule)), default=Fraction(0))
    return worst <= Fraction(*number) and number_shown(size, weights) == Fraction(*number)


def is_fraction(value):
    if type(value) is not tuple or [type(part) for part in value] != [int, int] or value[1] < 1:
        return False
    return pair(Fraction(*value)) == value


def random_levels(chance, size):
    return tuple(pair(Fraction(chance.randrange(below + 1), below)) for below in
                 [chance.choice((1, 2, 3, 5, 7, 10 ** 38 + 9)) for _ in range(size)])


class Levels(unittest.TestCase):
    def test_is_levels(self):
        for size in range(1, 8):
            for below in range(1, 8):
                for above in range(-2, below + 3):
                    value = ((0, 1),) * (size - 1) + ((above, below),)
                    self.assertIs(is_levels(size, value), is_fraction(value[-1]) and 0 <= above <= below)
                    self.assertIs(is_levels(size, value[1:]), False)
                    self.assertIs(is_levels(size, value + value[:1]), False)
        self.assertIs(is_levels(1, ((10 ** 39, 10 ** 39 + 1),)), True)
        for size in (1, 2):
            for value in NO_LEVELS:
                self.assertIs(is_levels(size, value), False, value)
        for value in mutants(((1, 2), (0, 1))):
            right = type(value) is tuple and len(value) == 2 and all(
                is_fraction(level) and 0 <= level[0] <= level[1] for level in value
            )
            self.assertIs(is_levels(2, value), right, value)

    def test_falsity_sums(self):
        chance = random.Random(1)
        for size in (1, 2, 3, 7):
            for _ in range(6):
                levels = random_levels(chance, size)
                for partial in brute_partials(size)[::1 if size < 4 else 31]:
                    self.assertEqual(repr(falsity_sum(levels, partial)), repr(pair(falsity(levels, partial))))
        self.assertEqual(falsity_sum(((1, 2),), ()), (0, 1))
        self.assertEqual(falsity_sum(((0, 1), (1, 1)), ((0, 1), (1, 0))), (2, 1))

    def test_numbers_for(self):
        for n in range(2, 7):
            for numbers in product(range(1, n + 1), repeat=2):
                policy = Thresholds(n, numbers)
                for m in range(2, 7):
                    fitting = [t for t in product(range(1, m + 1), repeat=2) if Thresholds(m, t).levels == policy.levels]
                    expected = fitting[0] if fitting else None
                    self.assertEqual(repr(numbers_for(policy.levels, m)), repr(expected))
        self.assertIsNone(numbers_for(((1, 7),), 6))
        self.assertEqual(numbers_for(((0, 1), (1, 1)) * 3 + ((3, 5),), 6), (1, 6, 1, 6, 1, 6, 4))

    def test_worst_patterns(self):
        chance = random.Random(2)
        for rule in SMALL[::3] + MIDDLE[::4] + LARGE[::3]:
            for levels in (random_levels(chance, rule[0]), ((1, 2),) * rule[0], ((0, 1),) * rule[0]):
                sums = [(falsity(levels, pattern), pattern) for pattern in brute.patterns(rule)]
                worst = max((each for each, _ in sums), default=Fraction(0))
                expected = (pair(worst), tuple(pattern for each, pattern in sums if each == worst))
                self.assertEqual(repr(worst_patterns(rule, levels)), repr(expected))
        self.assertEqual(worst_patterns(FREE_1, ((1, 2),)), ((0, 1), ()))


class Tension(unittest.TestCase):
    def test_papers_of_many_rules(self):
        for rule in SMALL + MIDDLE + LARGE:
            paper = tension_paper(rule)
            self.assertTrue(is_paper(rule, paper), (rule, paper))
            self.assertIs(is_tension_paper(rule, paper), True)
            self.assertEqual(repr(tension(rule)), repr(paper[0]))
            self.assertEqual(repr(tension_paper(rule)), repr(paper))
            self.assertTrue(is_fraction(paper[0]))

    def test_known_tensions(self):
        for size in range(2, 8):
            one = (size, tuple(row for row in brute_rows(size) if sum(row) == 1))
            even = (size, tuple(row for row in brute_rows(size) if sum(row) % 2 == 0))
            # With all levels x the zeros have the sum size * x, and two ones have 2 - 2 * x.
            self.assertEqual(tension(one), pair(Fraction(2 * size, size + 2)))
            self.assertEqual(tension(even), pair(Fraction(size, 2)))
        self.assertEqual([tension(rule) for rule in (IMPLY, EQUAL, FREE_7, FREE_1)], [(0, 1), (1, 1), (0, 1), (0, 1)])

    def test_no_grid_of_levels_is_better(self):
        for rule in [ONE, EVEN, EQUAL, IMPLY, CYCLES] + SMALL[::9] + MIDDLE[:5]:
            least = min(max((falsity(levels, pattern) for pattern in brute.patterns(rule)), default=Fraction(0))
                        for levels in product([(0, 1), (1, 5), (2, 5), (1, 2), (2, 3), (1, 1)], repeat=rule[0]))
            self.assertLessEqual(Fraction(*tension(rule)), least)

    def test_zero_exactly_if_no_key_has_both_literals_in_patterns(self):
        for rule in SMALL + MIDDLE + LARGE:
            used = {literal for pattern in brute.patterns(rule) for literal in pattern}
            both = any((key, 0) in used and (key, 1) in used for key in range(rule[0]))
            self.assertIs(tension(rule) == (0, 1), not both)
            if brute.patterns(rule):
                self.assertTrue(tension_paper(rule)[2])
        self.assertEqual(tension_paper(FREE_7)[2], ())

    def test_less_than_one_exactly_if_there_is_an_order(self):
        for rule in SMALL + MIDDLE + LARGE:
            cyclic = any(brute.distances(rule).get((second, first)) is not None for first, second in brute.arrows(rule))
            self.assertIs(Fraction(*tension(rule)) < 1, not cyclic)

    def test_other_weights_and_levels(self):
        self.assertIs(is_tension_paper(ONE, ((6, 5), ((2, 5), (2, 5), (2, 5)), W)), True)
        for rule in SMALL[::4] + MIDDLE[::6] + LARGE[::5]:
            number, levels, weights = tension_paper(rule)
            for factor in (2, 7, 10 ** 30):
                more = tuple((pattern, many * factor) for pattern, many in weights)
                self.assertIs(is_tension_paper(rule, (number, levels, more)), True)
            for other in brute.patterns(rule)[:4]:
                added = dict(weights)
                added[other] = added.get(other, 0) + 1
                self.check(rule, (number, levels, tuple(sorted(added.items()))))
            chance = random.Random(3)
            for _ in range(4):
                self.check(rule, (number, random_levels(chance, rule[0]), weights))
                self.check(rule, (pair(Fraction(*number) + Fraction(1, 9)), levels, weights))

    def check(self, rule, value):
        self.assertIs(is_tension_paper(rule, value), is_paper(rule, value), (rule, value))

    def test_one_part_changed(self):
        for rule in (ONE, IMPLY, EQUAL, FREE_1):
            number, levels, weights = tension_paper(rule)
            for value in list(mutants((number, levels, weights))) + list(JUNK):
                self.check(rule, value)
            self.check(rule, (number, levels, weights[::-1]))
            self.check(rule, (number, levels, weights + weights))
            self.check(rule, (number, levels, ()))
            self.check(rule, ((number[0] * 2, number[1] * 2), levels, weights))
        self.check(FREE_1, ((0, 1), ((1, 3),), ()))
        self.check(EVEN, ((3, 2), ((1, 2),) * 3, tuple((pattern, 1) for pattern in brute.patterns(EVEN))))

    def test_weights_show_less(self):
        for rule in SMALL[::5] + MIDDLE[::5]:
            chance = random.Random(4)
            known = brute.patterns(rule)
            for _ in range(8):
                weights = tuple((pattern, chance.randrange(1, 5)) for pattern in known if chance.randrange(2))
                self.assertLessEqual(number_shown(rule[0], weights), Fraction(*tension(rule)))


class Replicas(unittest.TestCase):
    def test_against_the_numbers_one_by_one(self):
        for rule in SMALL + MIDDLE[:30]:
            fitting = []
            for n in (2, 3):
                numbers = product(range(1, n + 1), repeat=rule[0])
                if any(Thresholds(n, each).keeps(rule) for each in numbers):
                    fitting.append(n)
            self.assertEqual(repr(least_replicas(rule)), repr(fitting[0] if fitting else None))

    def test_against_the_tension(self):
        for rule in SMALL + MIDDLE + LARGE:
            found = least_replicas(rule)
            self.assertIs(found is None, Fraction(*tension(rule)) > 1)
            self.assertIs(found == 2, next(thresholds(rule, 2), None) is not None)
        self.assertEqual([least_replicas(rule) for rule in (ONE, ATMOST, FREE_7, EVEN)], [None, 2, 2, None])
        majority = (3, tuple(row for row in brute_rows(3) if row not in ((0, 0, 0), (1, 1, 1))))
        self.assertEqual([least_replicas(majority), tension(majority)], [None, (3, 2)])
        crossed = (2, ((0, 1), (1, 0)))
        self.assertEqual([least_replicas(crossed), tension(crossed)], [2, (1, 1)])

    def test_a_rule_for_three_replicas_and_not_for_two(self):
        # Some two of the keys 0, 1 and 2 have the same side, and each two of them are in patterns with equal bits.
        rule = (5, tuple(row for row in brute_rows(5) if (row[3] == 1 or row[0] != row[1] != row[2])
                         and (row[4] == 1 or row[0] != row[2])))
        self.assertEqual([least_replicas(rule), tension(rule), brute.all_sides(rule)], [3, (1, 1), []])
        self.assertIs(Thresholds(3, (2, 2, 2, 1, 1)).keeps(rule), True)
        self.assertIs(next(thresholds(rule, 4), None), None)
        self.assertIsNotNone(next(thresholds(rule, 5), None))


class Orders(unittest.TestCase):
    def all_orders(self, rule):
        found = set()
        for keys in permutations(range(rule[0])):
            for bits in product((0, 1), repeat=rule[0]):
                order = tuple(zip(keys, bits))
                sequence = order + tuple(brute.opposite(literal) for literal in order[::-1])
                if all(sequence.index(first) < sequence.index(second) for first, second in brute.arrows(rule)):
                    found.add(order)
        return found

    def is_paper(self, rule, value):
        if type(value) is not tuple or len(value) != 2 or type(value[0]) is not str:
            return False
        if value[0] == "order":
            return repr(value[1]) in {repr(order) for order in self.all_orders(rule)}
        return value[0] == "cycle" and brute.is_closed_walk(rule, value[1]) and len(value[1]) > 1

    def test_papers_of_both_kinds(self):
        kinds = set()
        for rule in SMALL + MIDDLE[:30]:
            paper = order_paper(rule)
            self.assertTrue(self.is_paper(rule, paper), (rule, paper))
            self.assertIs(is_order_paper(rule, paper), True)
            self.assertEqual(repr(order_paper(rule)), repr(paper))
            self.assertIs(paper[0] == "order", bool(self.all_orders(rule)))
            kinds.add(paper[0])
        self.assertEqual(kinds, {"order", "cycle"})

    def test_great_rules(self):
        for rule in LARGE + MIDDLE[30:]:
            word, shown = order_paper(rule)
            self.assertIs(is_order_paper(rule, (word, shown)), True)
            if word == "order":
                sequence = shown + tuple(brute.opposite(literal) for literal in shown[::-1])
                self.assertEqual(sorted(sequence), brute.literals(rule[0]))
                for first, second in brute.arrows(rule):
                    self.assertLess(sequence.index(first), sequence.index(second))
            else:
                self.assertTrue(brute.is_closed_walk(rule, shown) and len(shown) > 1)

    def test_all_tuples_of_literals(self):
        for rule in (IMPLY, EQUAL, ATMOST, ONE, (2, ((0, 1), (1, 0))), FREE_1) + tuple(brute_rules(3)[::40]):
            right = self.all_orders(rule)
            for order in product(brute.literals(rule[0]), repeat=rule[0]):
                self.assertIs(is_order_paper(rule, ("order", order)), order in right)

    def test_one_part_changed(self):
        for rule in (IMPLY, ONE, ATMOST, EQUAL):
            right = order_paper(rule)
            values = list(mutants(right)) + list(JUNK) + [("cycle",) + right[1:], ("order",) + right[1:]]
            values += [("cycle", (((0, 1), None),)), ("cycle", ()), ("order", ())]
            for value in values:
                self.assertIs(is_order_paper(rule, value), self.is_paper(rule, value), value)

    def test_levels_of_orders(self):
        for size in range(1, 8):
            chance = random.Random(size)
            for _ in range(10):
                keys = chance.sample(range(size), size)
                order = tuple((key, chance.randrange(2)) for key in keys)
                levels = order_levels(order)
                self.assertIs(is_levels(size, levels), True)
                for at, literal in enumerate(order):
                    self.assertEqual(falsity(levels, (literal,)), Fraction(3 ** at, 3 ** size))
        self.assertEqual(order_levels(((0, 0),)), ((1, 3),))

    def test_levels_of_orders_show_a_tension_below_one(self):
        for rule in SMALL + MIDDLE + LARGE:
            word, order = order_paper(rule)
            if word == "order":
                levels = order_levels(order)
                self.assertTrue(all(falsity(levels, pattern) < 1 for pattern in brute.patterns(rule)))


class Errors(unittest.TestCase):
    def test_wrong_rules(self):
        for call in (tension, tension_paper, lambda rule: is_tension_paper(rule, None), least_replicas, order_paper,
                     lambda rule: is_order_paper(rule, None)):
            check_errors(self, call, (ONE,), ((0, NO_RULES, InvalidRule),))

    def test_levels(self):
        check_errors(self, lambda size: is_levels(size, None), (3,), ((0, NO_SIZES, InvalidNumber),))
        wrong = NO_LEVELS + ((), ((0, 1),) * 8)
        partials = tuple(value for value in JUNK if value != ()) + (((2, 0),), ((1, 0), (0, 0)), [(0, 1)])
        levels = ((1, 2), (0, 1))
        check_errors(self, falsity_sum, (levels, ((0, 1),)), (
            (0, wrong, InvalidLevels), (1, partials, InvalidPartial),
        ))
        check_errors(self, numbers_for, (levels, 3), (
            (0, wrong, InvalidLevels), (1, NO_NUMBERS + (0, 1, 7), InvalidNumber),
        ))
        check_errors(self, worst_patterns, (IMPLY, levels), (
            (0, NO_RULES, InvalidRule), (1, wrong + (((1, 2),), ((1, 2),) * 3), InvalidLevels),
        ))

    def test_orders(self):
        wrong = JUNK + (
            ((0, 0), (0, 1)), ((1, 0),), ((0, 0), (2, 0)), ((0, 2),), ((0, True),), [(0, 1)], ((0, 1), None),
            tuple((key, 0) for key in range(8)), ((0, 0), (0, 0)), ((0, 0), (1, 0), (1, 0)), (0, 1), ((-1, 0), (0, 0)),
        )
        check_errors(self, order_levels, (((1, 0), (0, 1)),), ((0, wrong, InvalidPartial),))

    def test_papers_with_every_value(self):
        for value in JUNK:
            self.assertIs(is_tension_paper(ONE, value), False)
            self.assertIs(is_tension_paper(ONE, ((6, 5), ((2, 5),) * 3, value)), False)
            self.assertIs(is_tension_paper(ONE, ((6, 5), value, W)), False)
            self.assertIs(is_tension_paper(ONE, (value, ((2, 5),) * 3, W)), False)
            self.assertIs(is_order_paper(ONE, (value, value)), False)
            self.assertIs(is_order_paper(ONE, ("cycle", value)), False)
            self.assertIs(is_order_paper(IMPLY, ("order", value)), False)
            self.assertIs(is_order_paper(IMPLY, (value, ((0, 1), (1, 0)))), False)
        check_accepted(self, lambda value: is_order_paper(IMPLY, value), {repr(("order", ((0, 1), (1, 0))))},
                       [("order", ((0, 1), (1, 0))), ["order", ((0, 1), (1, 0))], ("Order", ((0, 1), (1, 0)))])


if __name__ == "__main__":
    unittest.main()
