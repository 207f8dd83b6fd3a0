"""Stage 10: sums modulo 2."""

import random
import unittest
from itertools import combinations, product

from keywise.errors import InvalidFormula, InvalidNumber, InvalidRow, InvalidRule
from keywise.parity.parity import Parity, equations, follows, is_equations, is_parity_paper, parity_paper, reduced
from keywise.parity.parity import row_sum, solutions
from keywise.policies.policies import Table
from tests import brute
from tests.support import ATMOST, EVEN, IMPLY, JUNK, NO_SIZES, ONE
from tests.support import brute_rows, brute_rules, check_errors, mutants, sample_rules
from tests.test_arrows import EQUAL
from tests.test_policies import NO_NUMBERS, rows_for
from tests.test_rules import FREE_1, FREE_7, LAST_7, NO_RULES

NO_EQUATIONS = tuple(value for value in JUNK if value != ()) + (
    (((), 0),), (((), 1),), (((0, 0), 1),), (((1, 0), 1),), (((7,), 1),), (((-1,), 1),), (((0,), 2),), (((0,), True),),
    (((True,), 1),), (((0, None), 1),), (([0], 1),), (((0,), 1), None), [((0,), 1)], ((0,), 1), (((0,), 1, 1),),
    (((0,),),), ((0, 1),), (([0, 1], 1),), ([(0,), 1],), {((0,), 1): 1}, (((0,), None),), (((0, (1,)), 1),),
)


def all_equations(size):
    keys = [each for many in range(1, size + 1) for each in combinations(range(size), many)]
    return [(each, bit) for each in keys for bit in (0, 1)]


def solving(size, given):
    return [row for row in brute_rows(size) if all(sum(row[key] for key in keys) % 2 == bit for keys, bit in given)]


def common_equations(rule):
    return [(keys, bit) for keys, bit in all_equations(rule[0])
            if all(sum(row[key] for key in keys) % 2 == bit for row in rule[1])]


def is_reduced(given):
    leading = [keys[0] for keys, _ in given]
    if any(first >= second for first, second in zip(leading, leading[1:])):
        return False
    return all(key not in keys[1:] for key in leading for keys, _ in given)


def random_equations(chance, size, many):
    return tuple(chance.choice(all_equations(size)) for _ in range(many))


def affine_rules(size, many, seed):
    """Rules whose valid rows are the solutions of some equations."""
    chance = random.Random(seed)
    found = [(size, tuple(brute_rows(size)))]
    while len(found) < many:
        rows = solving(size, random_equations(chance, size, chance.randrange(size)))
        if rows and all({row[key] for row in rows} == {0, 1} for key in range(size)):
            found.append((size, tuple(rows)))
    return found


AFFINE = [rule for size in range(1, 8) for rule in affine_rules(size, 5, size)] + [EVEN, EQUAL]
OTHERS = [ONE, ATMOST, IMPLY, LAST_7] + [rule for size in range(2, 8) for rule in sample_rules(size, 5, 90 + size)]


def is_sum_closed(rule):
    rows = rule[1]
    return all(tuple((a + b + c) % 2 for a, b, c in zip(*three)) in rows for three in combinations(rows, 3))


def is_paper(rule, value):
    if type(value) is not tuple or len(value) != 2 or type(value[0]) is not str:
        return False
    word, shown = value
    if type(shown) is not tuple:
        return False
    if word == "equations":
        known = {repr(each) for each in all_equations(rule[0])}
        return all(repr(each) in known for each in shown) and tuple(solving(rule[0], shown)) == rule[1]
    known = {repr(row) for row in rule[1]}
    if word != "rows" or len(shown) != 3 or not all(repr(row) in known for row in shown):
        return False
    return tuple(sum(bits) % 2 for bits in zip(*shown)) not in rule[1]


class Policies(unittest.TestCase):
    def test_sums(self):
        for n in (3, 5):
            for size in range(1, 8):
                policy = Parity(n, size)
                self.assertEqual((policy.replicas, policy.size, policy.copied()), (n, size, None))
                self.assertEqual(str(policy), f"parity of {n} for {size} keys")
                for at, bits in enumerate(product((0, 1), repeat=n)):
                    self.assertEqual(repr(policy[size - 1][at]), repr(sum(bits) % 2))
                for rows in rows_for(policy, 5):
                    self.assertEqual(policy(rows), tuple(sum(bits) % 2 for bits in zip(*rows)))
                self.assertTrue(policy == Table.of(policy) and Table.of(policy) == policy)
        self.assertFalse(Parity(3, 2) == Parity(5, 2) or Parity(3, 2) == Parity(3, 3))

    def test_keeping(self):
        for rule in brute_rules(1) + brute_rules(2) + brute_rules(3) + AFFINE + OTHERS:
            if len(rule[1]) > 16:
                continue
            expected = is_sum_closed(rule)
            for n in (3, 5):
                told = Parity(n, rule[0]).broken_merge(rule)
                self.assertIs(Parity(n, rule[0]).keeps(rule), expected)
                self.assertTrue(told is None if expected else brute.is_broken_merge(Parity(n, rule[0]), rule, told))

    def test_keeping_against_all_merges(self):
        for rule in brute_rules(2) + brute_rules(3)[::9] + [EVEN, ONE]:
            for n in (3, 5) if len(rule[1]) < 5 else (3,):
                policy = Parity(n, rule[0])
                self.assertIs(policy.keeps(rule), not brute.broken(policy, rule))

    def test_keeping_great_rules(self):
        for rule in AFFINE + OTHERS + [FREE_7, (7, FREE_7[1][1:])]:
            expected = solving(rule[0], common_equations(rule)) == list(rule[1])
            for n in (3, 5):
                told = Parity(n, rule[0]).broken_merge(rule)
                self.assertIs(told is None, expected)
                self.assertTrue(expected or brute.is_broken_merge(Parity(n, rule[0]), rule, told))


class Rows(unittest.TestCase):
    def test_row_sum(self):
        chance = random.Random(1)
        for size in range(1, 8):
            self.assertEqual(row_sum(size), (0,) * size)
            for many in range(1, 9):
                rows = [chance.choice(brute_rows(size)) for _ in range(many)]
                self.assertEqual(repr(row_sum(size, *rows)), repr(tuple(sum(bits) % 2 for bits in zip(*rows))))


class Equations(unittest.TestCase):
    def test_is_equations(self):
        for size in (1, 2, 3):
            known = {repr(each) for each in all_equations(size)}
            self.assertIs(is_equations(size, ()), True)
            for given in product(all_equations(size), repeat=2):
                self.assertIs(is_equations(size, given), True)
                self.assertIs(is_equations(size, list(given)), False)
            for value in mutants((((0,), 1), ((0, size - 1) if size > 1 else (0,), 0))):
                right = type(value) is tuple and all(repr(each) in known for each in value)
                self.assertIs(is_equations(size, value), right, value)
            for value in NO_EQUATIONS:
                self.assertIs(is_equations(size, value), False, value)

    def test_solutions_and_reduced(self):
        chance = random.Random(2)
        for size in range(1, 8):
            seen = set()
            for many in range(40):
                given = random_equations(chance, size, chance.randrange(6))
                if many % 4 == 0:
                    sums = random_equations(chance, size, 1)[0]
                    given += (sums, (sums[0], 1 - sums[1]))
                expected = solving(size, given)
                self.assertEqual(repr(list(solutions(size, given))), repr(expected))
                self.check_reduced(size, given, expected)
                shuffled = tuple(chance.sample(given, len(given))) + given[:2]
                self.assertEqual(reduced(size, shuffled), reduced(size, given))
                seen.add(bool(expected))
            self.assertEqual(seen, {False, True})

    def test_all_small_equations(self):
        for size in (1, 2):
            for many in range(4):
                for given in product(all_equations(size), repeat=many):
                    self.check_reduced(size, given, solving(size, given))

    def check_reduced(self, size, given, expected):
        found = reduced(size, given)
        if not expected:
            self.assertIsNone(found)
            return
        self.assertIs(is_equations(size, found), True)
        self.assertTrue(is_reduced(found), found)
        self.assertEqual(solving(size, found), expected)
        self.assertEqual(len(expected), 2 ** (size - len(found)))
        self.assertEqual(repr(reduced(size, found)), repr(found))

    def test_exactly_one_reduced_tuple(self):
        found = {}
        for many in range(4):
            for given in product(all_equations(3), repeat=many):
                rows = tuple(solving(3, given))
                if rows and is_reduced(given):
                    self.assertEqual(found.setdefault(rows, given), given)
                    self.assertEqual(reduced(3, given), given)

    def test_follows(self):
        chance = random.Random(3)
        seen = set()
        for size in range(1, 8):
            for _ in range(40):
                given = random_equations(chance, size, chance.randrange(4))
                equation = chance.choice(all_equations(size))
                if len(given) > 1 and chance.randrange(2):
                    sums = sorted(set(given[0][0]) ^ set(given[1][0]))
                    equation = (tuple(sums), (given[0][1] + given[1][1]) % 2) if sums else equation
                rows = solving(size, given)
                expected = all(sum(row[key] for key in equation[0]) % 2 == equation[1] for row in rows)
                self.assertIs(follows(size, given, equation), expected)
                self.assertIs(follows(size, given[::-1] + given, equation), expected)
                seen.add((bool(rows), expected))
        self.assertEqual(seen, {(True, True), (True, False), (False, True)})

    def test_two_generators_at_once(self):
        given = (((0, 1), 1),)
        first, second = solutions(2, given), solutions(2, given)
        self.assertEqual([next(first), next(second), next(first), next(second)], [(0, 1), (0, 1), (1, 0), (1, 0)])

    def test_equations_of_rules(self):
        for rule in brute_rules(1) + brute_rules(2) + brute_rules(3) + AFFINE + OTHERS:
            found = equations(rule)
            self.assertEqual(repr(equations(rule)), repr(found))
            if len(rule[1]) <= 16:
                self.assertIs(found is not None, is_sum_closed(rule))
            if found is not None:
                self.assertTrue(is_reduced(found))
                self.assertEqual(tuple(solving(rule[0], found)), rule[1])
        self.assertTrue(all(equations(rule) is not None for rule in AFFINE))
        self.assertEqual([equations(FREE_1), equations(FREE_7)], [(), ()])
        self.assertEqual(equations((7, ((0,) * 7, (1,) * 7))), tuple(((key, 6), 0) for key in range(6)))


class Papers(unittest.TestCase):
    def test_one_kind_for_each_rule(self):
        for rule in brute_rules(1) + brute_rules(2) + brute_rules(3) + AFFINE + OTHERS:
            paper = parity_paper(rule)
            self.assertTrue(is_paper(rule, paper), (rule, paper))
            self.assertIs(is_parity_paper(rule, paper), True)
            self.assertIs(paper[0] == "equations", equations(rule) is not None)
            self.assertEqual(repr(parity_paper(rule)), repr(paper))

    def test_any_equations(self):
        chance = random.Random(4)
        seen = set()
        for rule in AFFINE[5:20] + [EVEN, EQUAL, ONE]:
            common = common_equations(rule)
            for _ in range(20):
                given = tuple(chance.choice(common) for _ in range(chance.randrange(6)) if common)
                for value in (("equations", given), ("equations", given + random_equations(chance, rule[0], 1))):
                    self.assertIs(is_parity_paper(rule, value), is_paper(rule, value), (rule, value))
                    seen.add(is_paper(rule, value))
            self.assertIs(is_parity_paper(rule, ("equations", tuple(common) * 2)), rule != ONE)
        self.assertEqual(seen, {False, True})

    def test_any_rows(self):
        for rule in [ONE, ATMOST, EVEN, IMPLY, EQUAL] + brute_rules(2) + brute_rules(3)[::20]:
            for rows in product(rule[1], repeat=3):
                self.assertIs(is_parity_paper(rule, ("rows", rows)), is_paper(rule, ("rows", rows)))
        self.assertIs(is_parity_paper(ONE, ("rows", ((0, 0, 1), (0, 1, 0), (1, 1, 1)))), False)

    def test_one_part_changed(self):
        for rule in (ONE, EVEN, FREE_1, IMPLY):
            word, shown = parity_paper(rule)
            values = list(mutants((word, shown))) + list(JUNK) + [("rows", shown), ("equations", shown)]
            values += [("rows", value) for value in JUNK] + [("equations", value) for value in JUNK]
            values += [("equations", value) for value in NO_EQUATIONS] + [("rows", ONE[1] + ONE[1][:1])]
            for value in values + [(junk, shown) for junk in JUNK]:
                self.assertIs(is_parity_paper(rule, value), is_paper(rule, value), value)


class Errors(unittest.TestCase):
    def test_making(self):
        check_errors(self, Parity, (3, 2), (
            (0, NO_NUMBERS + (0, 1, 2, 4, 6, 7), InvalidNumber), (1, NO_SIZES, InvalidNumber),
        ))

    def test_rows(self):
        wrong = JUNK + ((0, 1), (0, 1, 1, 0), (0, 1, True), [0, 1, 0], (0, 1, 2))
        check_errors(self, row_sum, (3, (0, 1, 1), (1, 1, 1)), (
            (0, NO_SIZES, InvalidNumber), (1, wrong, InvalidRow), (2, wrong, InvalidRow),
        ))
        check_errors(self, row_sum, (3,), ((0, NO_SIZES, InvalidNumber),))

    def test_equations(self):
        check_errors(self, lambda size: is_equations(size, ()), (3,), ((0, NO_SIZES, InvalidNumber),))
        sizes, wrong = (0, NO_SIZES, InvalidNumber), (1, NO_EQUATIONS + ((((0, 3), 1),),), InvalidFormula)
        good = (3, (((0, 2), 1),))
        check_errors(self, lambda size, given: list(solutions(size, given)), good, (sizes, wrong))
        check_errors(self, reduced, good, (sizes, wrong))
        single = tuple(value[0] for value in NO_EQUATIONS if type(value) is tuple and len(value) == 1)
        check_errors(self, follows, good + (((1,), 0),), (
            sizes, wrong, (2, JUNK + single + (((0, 3), 1), (((0,), 1),)), InvalidFormula),
        ))
        with self.assertRaises(InvalidFormula):
            next(solutions(2, None))

    def test_wrong_rules(self):
        for call in (equations, parity_paper, lambda rule: is_parity_paper(rule, None)):
            check_errors(self, call, (ONE,), ((0, NO_RULES, InvalidRule),))


if __name__ == "__main__":
    unittest.main()
