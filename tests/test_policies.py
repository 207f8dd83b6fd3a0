"""Stage 4: policies."""

import random
import unittest
from itertools import permutations, product

from keywise.choices.choices import Choice
from keywise.errors import InvalidNumber, InvalidPolicy, InvalidRow, InvalidRule, TooLarge
from keywise.lattice.lattice import Sides
from keywise.levels.thresholds import Thresholds
from keywise.parity.parity import Parity
from keywise.policies import policies
from keywise.policies.policies import Copy, Policy, Table
from tests import brute
from tests.support import ATMOST, EVEN, IMPLY, JUNK, NO_SIZES, ONE, POLICIES
from tests.support import brute_rows, brute_rules, check_errors, mutants, outcome, random_function, sample_rules
from tests.test_rules import FREE_7, NO_RULES

AND, OR, FIRST, LAST = (0, 0, 0, 1), (0, 1, 1, 1), (0, 0, 1, 1), (0, 1, 0, 1)
NO_NUMBERS = (-1, True, False, None, "1", (), (1,), [1], {1: 1}, 10 ** 39, Copy(2, 2, 0))


def random_tables(many, seed, replicas=(2, 3, 4, 5, 6), sizes=(1, 2, 3, 4, 5, 6, 7)):
    chance = random.Random(seed)
    found = []
    for _ in range(many):
        n = chance.choice(replicas)
        found.append(Table(tuple(random_function(chance, n) for _ in range(chance.choice(sizes)))))
    return found


def some_policies():
    """Return some policies of all classes."""
    found = random_tables(12, 1) + [Copy(n, size, n - 1) for n in range(2, 7) for size in (1, 3, 7)]
    found += [Copy(n, 2, 0) for n in range(2, 7)] + [Choice(3, ((0, 1), (2, 0), (2, 1))), Choice(7, ())]
    found += [Thresholds(n, (1, n, 2)) for n in range(2, 7)] + [Sides(n, (0, 1, 1, 0)) for n in range(2, 7)]
    return found + [Parity(3, 4), Parity(5, 2), Choice(1, ((0, 0),))]


def rows_for(policy, many=12):
    """Return some tuples of rows that the policy can merge."""
    chance = random.Random(policy.size)
    rows = brute_rows(policy.size)
    return [tuple(chance.choice(rows) for _ in range(policy.replicas)) for _ in range(many)]


class Merging(unittest.TestCase):
    def test_limits(self):
        self.assertEqual(repr((policies.MAX_REPLICAS, policies.MAX_MERGES)), "(6, 20000)")

    def test_what_all_policies_have(self):
        for policy in some_policies():
            self.assertIsInstance(policy, Policy)
            self.assertEqual(type(policy).__bases__, (Policy,))
            self.assertIs(type(policy.size), int)
            self.assertIs(type(policy.replicas), int)
            self.assertEqual(len(policy), policy.size)
            self.assertEqual(len(policy.functions), policy.size)
            for key in range(policy.size):
                function = policy[key]
                self.assertEqual(repr(function), repr(policy.functions[key]))
                self.assertEqual((len(function), function[0], function[-1]), (2 ** policy.replicas, 0, 1))
                self.assertTrue(all(type(bit) is int and bit in (0, 1) for bit in function))
                for at, bits in enumerate(product((0, 1), repeat=policy.replicas)):
                    self.assertEqual(repr(policy.bit(key, bits)), repr(function[at]))

    def test_call_and_merged(self):
        for policy in some_policies() + random_tables(20, 2):
            for rows in rows_for(policy):
                expected = tuple(
                    policy[key][int("".join(str(row[key]) for row in rows), 2)] for key in range(policy.size)
                )
                self.assertEqual(repr(policy(rows)), repr(expected))
                self.assertEqual(repr(policy.merged(*rows)), repr(expected))
                self.assertEqual(brute.merge(policy.functions, rows), expected)

    def test_the_order_of_the_replicas(self):
        table = Table(((0, 0, 1, 0, 1, 0, 0, 1),))
        self.assertEqual([table(tuple((bit,) for bit in bits)) for bits in product((0, 1), repeat=3)],
                         [(0,), (0,), (1,), (0,), (1,), (0,), (0,), (1,)])

    def test_equal_bits_stay(self):
        for policy in some_policies():
            for row in brute_rows(policy.size)[::5]:
                self.assertEqual(policy((row,) * policy.replicas), row)

    def test_keys_are_independent(self):
        for policy in random_tables(15, 3):
            for rows in rows_for(policy, 4):
                merged = policy(rows)
                for key in range(policy.size):
                    self.assertEqual(policy.bit(key, tuple(row[key] for row in rows)), merged[key])


class Tables(unittest.TestCase):
    def test_texts(self):
        self.assertEqual(str(Table((AND, OR))), "table 0001 0111")
        self.assertEqual(str(Table((FIRST,))), "table 0011")
        self.assertEqual(str(Table(((0, 1, 0, 0, 1, 1, 0, 1),) * 2)), "table 01001101 01001101")
        for table in random_tables(20, 4):
            words = ["".join(str(bit) for bit in function) for function in table.functions]
            self.assertEqual(str(table), "table " + " ".join(words))

    def test_all_small_tables(self):
        for functions in [(one,) for one in brute.functions(2) + brute.functions(3)] + [
            pair for n in (2, 3) for pair in product(brute.functions(n)[::3], repeat=2)
        ]:
            table = Table(functions)
            self.assertEqual(repr(table.functions), repr(functions))
            self.assertEqual((table.size, 2 ** table.replicas), (len(functions), len(functions[0])))

    def test_of(self):
        for policy in some_policies():
            table = Table.of(policy)
            self.assertIs(type(table), Table)
            self.assertEqual(repr(table.functions), repr(policy.functions))
            self.assertTrue(table == policy and policy == table)

    def test_wrong_functions(self):
        wrong = JUNK + (
            (), ((0, 1),), ((0,),), ((0, 0, 0, 0),), ((1, 1, 1, 1),), ((1, 0, 0, 1, 0, 0, 0, 1),), ((0, 0, 1),),
            (AND, (0,) * 7 + (1,)), ((0,) * 7 + (1,), AND), (AND,) * 8, ((0, True, 0, 1),), ((False, 0, 0, 1),),
            ((0, 0, 0, True),), ((0, 2, 0, 1),), ([0, 0, 0, 1],), [AND], ((0,) * 127 + (1,),), (AND, None), (AND, ()),
            ((0,) * 16,), ((0,) * 5 + (1,),), ((0, 0, 0, 1, 1),), (AND, OR, (0, 0, 0)), AND, {AND: 1}, "0001",
        )
        check_errors(self, Table, ((AND,),), ((0, wrong, InvalidPolicy),))
        for good in ((AND, OR), (FIRST,), ((0, 0, 1, 0, 1, 0, 0, 1),)):
            for value in mutants(good):
                right = type(value) is tuple and 0 < len(value) < 8 and all(
                    repr(function) in map(repr, brute.functions(2) + brute.functions(3)) for function in value
                ) and len({len(function) for function in value}) == 1
                self.assertIs(type(outcome(Table, value)) is Table, right, value)

    def test_of_wrong_values(self):
        check_errors(self, Table.of, (Copy(2, 1, 0),), ((0, JUNK_POLICIES, InvalidPolicy),))


JUNK_POLICIES = tuple(value for value in JUNK if not isinstance(value, Policy)) + ((AND, OR), Table, ONE)


class Copies(unittest.TestCase):
    def test_all_copies(self):
        for n in range(2, 7):
            for size in range(1, 8):
                for replica in range(n):
                    policy = Copy(n, size, replica)
                    self.assertEqual((policy.replicas, policy.size, policy.copied()), (n, size, replica))
                    for bits in product((0, 1), repeat=n):
                        self.assertEqual(policy.bit(size - 1, bits), bits[replica])
                    for rows in rows_for(policy, 3):
                        self.assertEqual(policy(rows), rows[replica])
                    self.assertEqual(str(policy), f"copy {replica} of {n} for {size} keys")

    def test_copied_of_tables(self):
        copying = {n: {tuple(bits[r] for bits in product((0, 1), repeat=n)): r for r in range(n)} for n in range(2, 7)}
        for n, step in ((2, 1), (3, 1)):
            for functions in product(brute.functions(n), repeat=2):
                told = {copying[n].get(function) for function in functions}
                self.assertEqual(repr(Table(functions).copied()), repr(told.pop() if len(told) == 1 else None))
        for n in range(4, 7):
            for one, two in product(copying[n], repeat=2):
                expected = copying[n][one] if one == two else None
                self.assertEqual(Table((one, two, two)).copied(), expected)
                self.assertIsNone(Table((one, (0,) * (2 ** n - 1) + (1,))).copied())
        for policy in (Sides(2, (0,)), Thresholds(3, (2, 2)), Parity(3, 2)):
            self.assertIsNone(policy.copied())
        self.assertEqual([Choice(2, ()).copied(), Choice(1, ((0, 0), (0, 1))).copied()], [1, 0])

    def test_wrong_numbers(self):
        check_errors(self, Copy, (3, 2, 1), (
            (0, NO_NUMBERS + (0, 1, 7), InvalidNumber), (1, NO_SIZES, InvalidNumber),
            (2, NO_NUMBERS + (3, 4), InvalidNumber),
        ))
        self.assertEqual(outcome(Copy, 2, 1, 2), (InvalidNumber, {"value": 2}))
        self.assertEqual(outcome(Copy, 7, 9, 9), (InvalidNumber, {"value": 7}))
        self.assertEqual(Copy(6, 1, 5).copied(), 5)


class On(unittest.TestCase):
    def test_keys_in_any_order(self):
        for policy in some_policies():
            for many in range(1, min(policy.size, 3) + 1):
                for keys in list(permutations(range(policy.size), many))[:40]:
                    found = policy.on(keys)
                    self.assertIs(type(found), Table)
                    self.assertEqual(found.functions, tuple(policy.functions[key] for key in keys))
        seven = random_tables(1, 9, sizes=(7,))[0]
        self.assertEqual(seven.on((6, 5, 4, 3, 2, 1, 0)).functions, seven.functions[::-1])
        self.assertEqual(seven.on(tuple(range(7))), seven)

    def test_wrong_keys(self):
        wrong = tuple(value for value in JUNK if value != (2,)) + (
            (), (0, 0), (0, 1, 0), (3,), (-1,), (0, 3), (True,), (0, False), [0], [0, 1], {0: 1}, (0, None), ((0,),), 0,
            (0, 1, 2, 0), (0, 1, 2, 3),
        )
        check_errors(self, lambda keys: Copy(2, 3, 0).on(keys), ((2, 0),), ((0, wrong, InvalidNumber),))
        self.assertEqual(outcome(Copy(2, 2, 0).on, (2,)), (InvalidNumber, {"value": (2,)}))


class Keeping(unittest.TestCase):
    def check(self, policy, rule):
        found = brute.broken(policy, rule)
        self.assertIs(policy.keeps(rule), not found, (str(policy), rule))
        told = policy.broken_merge(rule)
        if found:
            self.assertTrue(told in found and brute.is_broken_merge(policy, rule, told), (str(policy), rule, told))
            self.assertEqual(repr(policy.broken_merge(rule)), repr(told))
        else:
            self.assertIsNone(told)

    def test_all_tables_for_two_replicas(self):
        for rule in brute_rules(1) + brute_rules(2):
            for functions in product(brute.functions(2), repeat=rule[0]):
                self.check(Table(functions), rule)
        for rule in [ONE, EVEN, ATMOST] + sample_rules(3, 12, 5):
            for functions in product(brute.functions(2), repeat=3):
                self.check(Table(functions), rule)

    def test_tables_for_more_replicas(self):
        for rule in brute_rules(2):
            for functions in product(brute.functions(3)[::5], repeat=2):
                self.check(Table(functions), rule)
        for table in random_tables(30, 6, replicas=(3, 4), sizes=(3,)):
            for rule in (ONE, EVEN, ATMOST):
                self.check(table, rule)
        for table in random_tables(6, 7, replicas=(5, 6), sizes=(2, 3)):
            self.check(table, IMPLY if table.size == 2 else ONE)
        for table in random_tables(15, 8, replicas=(2,), sizes=(5, 7)):
            self.check(table, sample_rules(table.size, 1, 3)[0])

    def test_tables_that_keep(self):
        for policy in (Thresholds(5, (2, 2, 2)), Sides(6, (0, 0, 0)), Copy(4, 3, 2)):
            self.check(Table.of(policy), ATMOST)
        for policy in (Parity(3, 3), Parity(5, 3), Copy(6, 3, 5)):
            self.check(Table.of(policy), EVEN)
        self.check(Table.of(Thresholds(6, (6, 1))), IMPLY)

    def test_copies_keep_everything(self):
        for n in range(2, 7):
            for rule in [IMPLY, ONE, EVEN, FREE_7] + sample_rules(7, 3, 1) + sample_rules(5, 3, 1):
                policy = Copy(n, rule[0], n // 2)
                self.assertIs(policy.keeps(rule), True)
                self.assertIsNone(policy.broken_merge(rule))


class TooManyMerges(unittest.TestCase):
    LARGEST = {3: 27, 4: 11, 5: 7, 6: 5}

    def test_exactly_above_the_limit(self):
        for n, many in self.LARGEST.items():
            self.assertTrue(many ** n <= 20000 < (many + 1) ** n)
            for rows, large in ((many, False), (many + 1, True)):
                rule = self.rule(rows)
                table = Table.of(Copy(n, 7, 1))
                for call, kept in ((table.keeps, True), (table.broken_merge, None)):
                    self.assertEqual(outcome(call, rule), (TooLarge, {"limit": 20000}) if large else kept)

    def rule(self, many):
        rows = [row for row in brute_rows(7) if row not in ((0,) * 7, (1,) * 7)][:many - 2]
        return (7, tuple(sorted(rows + [(0,) * 7, (1,) * 7])))

    def test_two_replicas_are_never_too_many(self):
        self.assertIs(Table.of(Copy(2, 7, 0)).keeps(FREE_7), True)
        self.assertIs(Table((AND, OR) * 3 + (FIRST,)).keeps(FREE_7), True)
        broken = (7, FREE_7[1][:-2] + FREE_7[1][-1:])
        self.assertEqual(len(broken[1]), 127)
        self.assertIs(Table((OR,) * 7).keeps(broken), False)

    def test_even_if_the_first_merges_are_broken(self):
        for n, many in self.LARGEST.items():
            function = (0,) + (1,) * (2 ** n - 2) + (1,)
            table = Table((function,) * 6 + (tuple(1 - bit for bit in function[::-1]),))
            self.assertIs(table.keeps(self.rule(many)), False)
            self.assertEqual(outcome(table.keeps, self.rule(many + 1)), (TooLarge, {"limit": 20000}))
            self.assertEqual(outcome(table.broken_merge, self.rule(many + 1)), (TooLarge, {"limit": 20000}))

    def test_only_tables(self):
        large = self.rule(60)
        for policy in (Copy(6, 7, 1), Thresholds(6, (1, 2, 3, 4, 5, 6, 1)), Sides(6, (0, 1) * 3 + (0,)), Parity(5, 7),
                       Choice(7, ((0, 1), (6, 0)))):
            told = policy.broken_merge(large)
            self.assertIs(policy.keeps(large), told is None)
            self.assertTrue(told is None or brute.is_broken_merge(policy, large, told))

    def test_a_wrong_rule_comes_first(self):
        table = Table.of(Copy(6, 3, 1))
        self.assertEqual(outcome(table.keeps, FREE_7), (InvalidRule, {}))
        self.assertEqual(outcome(table.broken_merge, (7, FREE_7[1][:60])), (InvalidRule, {}))


class Comparing(unittest.TestCase):
    def test_equal_policies_of_different_classes(self):
        equal = (
            (Copy(2, 2, 0), Choice(2, ((0, 0), (0, 1), (1, 0), (1, 1))), Table((FIRST, FIRST))),
            (Sides(2, (0, 1)), Choice(2, ((0, 0), (1, 1))), Thresholds(2, (2, 1)), Table((AND, OR))),
            (Sides(4, (1,)), Thresholds(4, (1,)), Table(((0,) + (1,) * 15,))),
            (Parity(3, 1), Table(((0, 1, 1, 0, 1, 0, 0, 1),)), Parity(3, 2).on((1,))),
        )
        for group in equal:
            for other_group in equal:
                for one, two in product(group, other_group):
                    self.assertIs(one == two, group is other_group, (str(one), str(two)))
                    self.assertIs(one != two, group is not other_group)

    def test_different_sizes_and_replicas(self):
        self.assertFalse(Sides(2, (0, 0)) == Sides(2, (0,)))
        self.assertFalse(Sides(3, (0, 0)) == Sides(2, (0, 0)))
        self.assertFalse(Copy(3, 2, 1) == Copy(3, 2, 0))

    def test_other_values(self):
        for policy in POLICIES:
            for value in tuple(value for value in JUNK if not isinstance(value, Policy)) + (policy.functions, Table):
                self.assertIs(policy == value, False)
                self.assertIs(value == policy, False)
                self.assertIs(policy != value, True)

    def test_properties_cannot_be_assigned(self):
        for policy in some_policies():
            before = (policy.functions, str(policy))
            for name in ("size", "replicas", "functions"):
                with self.assertRaises(AttributeError):
                    setattr(policy, name, 3)
            self.assertEqual((policy.functions, str(policy)), before)


class Errors(unittest.TestCase):
    def test_keys(self):
        for policy in (Copy(3, 2, 1), Table((AND, OR))):
            bits = (0,) * policy.replicas
            wrong = NO_NUMBERS + (2, 7)
            check_errors(self, lambda key: policy[key], (1,), ((0, wrong, InvalidNumber),))
            no_bits = JUNK + ((0,) * (policy.replicas + 1), (0,) * (policy.replicas - 1), (0, True), (0, 2, 0),
                              (0, 1, True), [0] * policy.replicas, bits[1:] + (None,))
            check_errors(self, policy.bit, (1, bits), ((0, wrong, InvalidNumber), (1, no_bits, InvalidRow)))

    def test_rows(self):
        policy = Copy(3, 2, 1)
        row = (0, 1)
        wrong = JUNK + ((row, row), (row,) * 4, (row, row, (0,)), (row, row, (0, 1, 0)), (row, (0, True), row),
                        [row] * 3, (row, row, [0, 1]), (row, None, row), ((0, 2), row, row))
        check_errors(self, policy, ((row,) * 3,), ((0, wrong, InvalidRow),))
        for rows in wrong:
            if isinstance(rows, (tuple, list)) and rows != [row] * 3:
                self.assertEqual(outcome(policy.merged, *rows), (InvalidRow, {}))
        self.assertEqual(policy.merged(*[row] * 3), row)

    def test_rules(self):
        for policy in (Copy(3, 2, 1), Table((AND, OR)), Sides(2, (0, 1)), Thresholds(2, (2, 1)), Choice(2, ())):
            for call in (policy.keeps, policy.broken_merge):
                wrong = NO_RULES + (ONE, FREE_7, (1, ((0,), (1,))))
                check_errors(self, call, (IMPLY,), ((0, wrong, InvalidRule),))


if __name__ == "__main__":
    unittest.main()
