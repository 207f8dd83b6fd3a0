"""Stage 1: rows, partial rows and rules."""

import copy
import random
import unittest
from itertools import permutations, product

from keywise.errors import InvalidNumber, InvalidPartial, InvalidRow, InvalidRule
from keywise.rules.rules import MAX_KEYS, all_rows, forced, is_partial, is_row, is_rule, is_valid, make_rule
from keywise.rules.rules import rows_with, rule_where
from tests.support import ATMOST, EVEN, IMPLY, JUNK, NO_SIZES, ONE
from tests.support import brute_partials, brute_rows, brute_rules, mutants, outcome

FREE_1 = (1, ((0,), (1,)))
FREE_7 = (7, tuple(brute_rows(7)))
LAST_7 = (7, ((0,) * 7, (0, 1, 0, 1, 0, 1, 1), (1,) * 7))
RULES = (FREE_1, IMPLY, ONE, EVEN, ATMOST, LAST_7)
NO_RULES = JUNK + (
    (2, ()), (2, ((0, 0),)), (2, ((0, 0), (0, 1))), (2, ((0, 0), (1, 0))), (2, ((0, 1), (0, 0), (1, 1))),
    (2, ((0, 0), (0, 0), (1, 1))), (2, [(0, 0), (1, 1)]), [2, ((0, 0), (1, 1))], (2, ([0, 0], [1, 1])),
    (2, ((0, 0, 0), (1, 1, 1))), (True, ((0,), (1,))), ("2", ((0, 0), (1, 1))), (2, ((0, False), (1, 1))),
    (2, ((0, 0), (1, 1)), ()), (2,), (0, ((),)), (0, ()), (8, ((0,) * 8, (1,) * 8)), (2, {(0, 0): 0, (1, 1): 1}),
    (2, ((0, 0), None, (1, 1))), (2, "0011"), (2, ((0, 0), (1, 2))), (2, ((-1, -1), (1, 1))),
)


class Sizes(unittest.TestCase):
    def test_most_keys(self):
        self.assertEqual(repr(MAX_KEYS), "7")

    def test_wrong_sizes(self):
        for size in NO_SIZES:
            told = (InvalidNumber, {"value": size})
            for value in ((), (0,), None, "row"):
                self.assertEqual(outcome(is_row, size, value), told)
                self.assertEqual(outcome(is_partial, size, value), told)
            self.assertEqual(outcome(list, all_rows(size)), told)
            self.assertEqual(outcome(make_rule, size), told)
            self.assertEqual(outcome(make_rule, size, None, (0,)), told)
            self.assertEqual(outcome(rule_where, size, lambda row: 1 // 0), told)

    def test_error_has_the_very_value(self):
        wrong = [1, [2]]
        with self.assertRaises(InvalidNumber) as caught:
            is_row(wrong, (0,))
        self.assertIs(caught.exception.value, wrong)
        with self.assertRaises(InvalidNumber) as caught:
            make_rule(True, (0,), (1,))
        self.assertIs(caught.exception.value, True)


class Values(unittest.TestCase):
    def compare(self, call, value, right):
        found = call(value)
        self.assertIs(found, repr(value) in right, (call, value))

    def test_rows(self):
        for size in range(1, 8):
            rows = brute_rows(size)
            right = {repr(row) for row in rows}
            for row in rows[:20] + rows[-4:]:
                self.assertIs(is_row(size, row), True)
                for value in mutants(row):
                    self.compare(lambda value: is_row(size, value), value, right)
            for value in JUNK:
                self.compare(lambda value: is_row(size, value), value, right)
            for other in range(10):
                self.assertIs(is_row(size, (1,) * other), size == other)

    def test_partial_rows(self):
        for size in (1, 2, 3):
            partials = brute_partials(size)
            right = {repr(partial) for partial in partials}
            for partial in partials:
                self.assertIs(is_partial(size, partial), True)
                for value in mutants(partial):
                    self.compare(lambda value: is_partial(size, value), value, right)
            for value in JUNK:
                self.compare(lambda value: is_partial(size, value), value, right)

    def test_partial_rows_of_seven_keys(self):
        for size in range(1, 8):
            self.assertIs(is_partial(size, ((6, 1),)), size == 7)
            full = tuple((key, key % 2) for key in range(size))
            self.assertIs(is_partial(size, full), True)
            self.assertIs(is_partial(size, full + ((size, 0),)), False)
        for wrong in (((0, 1), (0, 1)), ((0, 0), (0, 1)), ((3, 1), (2, 1)), ((-1, 0),), ((0, True),), ((True, 0),)):
            self.assertIs(is_partial(7, wrong), False)

    def test_rules(self):
        for size in (1, 2):
            rules = brute_rules(size)
            right = {repr(rule) for each in (1, 2) for rule in brute_rules(each)}
            for rule in rules:
                self.assertIs(is_rule(rule), True)
                for value in mutants(rule):
                    self.compare(is_rule, value, right)
        right = {repr(rule) for rule in brute_rules(3)}
        for rule in (ONE, EVEN, ATMOST):
            for value in mutants(rule):
                self.compare(is_rule, value, right)

    def test_no_rules(self):
        for value in NO_RULES:
            self.assertIs(is_rule(value), False, value)

    def test_rules_of_one_and_of_seven_keys(self):
        for rule in (FREE_1, FREE_7, LAST_7, (7, ((0,) * 7, (1,) * 7))):
            self.assertIs(is_rule(rule), True)
        for key in range(7):
            for bit in (0, 1):
                rows = tuple(row for row in FREE_7[1] if row[key] == bit)
                self.assertIs(is_rule((7, rows)), False)

    def test_arguments_are_not_changed(self):
        for value in ([0, 1], {0: [1]}, ([0, 1], [1, 0]), [2, [[0, 0], [1, 1]]]):
            before = copy.deepcopy(value)
            self.assertIs(is_row(2, value), False)
            self.assertIs(is_partial(2, value), False)
            self.assertIs(is_rule(value), False)
            self.assertIs(is_valid(IMPLY, value), False)
            self.assertEqual(value, before)


class MakingRules(unittest.TestCase):
    def test_all_rows(self):
        for size in range(1, 8):
            rows = list(all_rows(size))
            self.assertEqual(repr(rows), repr(brute_rows(size)))
            self.assertEqual(len(rows), 2 ** size)

    def test_all_rows_one_by_one(self):
        rows = all_rows(2)
        self.assertIs(iter(rows), rows)
        self.assertEqual([next(rows), next(rows)], [(0, 0), (0, 1)])
        self.assertEqual(list(rows), [(1, 0), (1, 1)])

    def test_every_subset_of_the_rows(self):
        for size in (1, 2, 3):
            rules = {rule[1] for rule in brute_rules(size)}
            rows = brute_rows(size)
            for taken in product((False, True), repeat=len(rows)):
                valid = tuple(row for row, take in zip(rows, taken) if take)
                expected = (size, valid) if valid in rules else (InvalidRule, {})
                self.assertEqual(outcome(make_rule, size, *valid), expected)
                self.assertEqual(outcome(make_rule, size, *valid[::-1], *valid), expected)
                self.assertEqual(outcome(rule_where, size, lambda row: row in valid), expected)

    def test_rows_in_any_order_and_repeated(self):
        for rows in permutations(IMPLY[1]):
            self.assertEqual(repr(make_rule(2, *rows)), repr(IMPLY))
            self.assertEqual(repr(make_rule(2, *rows, *rows[:2])), repr(IMPLY))
        self.assertEqual(make_rule(1, (1,), (0,)), FREE_1)
        self.assertEqual(make_rule(7, *FREE_7[1][::-1]), FREE_7)
        self.assertEqual(rule_where(7, lambda row: True), FREE_7)
        self.assertEqual(rule_where(7, lambda row: len(set(row)) == 1), (7, ((0,) * 7, (1,) * 7)))

    def test_wrong_rows(self):
        for wrong in JUNK + ((0,), (0, 0, 0), (0, True), (0, 2), [0, 1], (0, None)):
            for rows in ((wrong,), ((0, 0), (1, 1), wrong), (wrong, (0, 0), (0, 1))):
                with self.assertRaises(InvalidRow):
                    make_rule(2, *rows)

    def test_errors_in_their_order(self):
        self.assertEqual(outcome(make_rule, 0, "row"), (InvalidNumber, {"value": 0}))
        self.assertEqual(outcome(make_rule, 8), (InvalidNumber, {"value": 8}))
        self.assertEqual(outcome(make_rule, 2, (0, 0), (0, 0, 0)), (InvalidRow, {}))
        self.assertEqual(outcome(make_rule, 2, (0, 0)), (InvalidRule, {}))
        self.assertEqual(outcome(make_rule, 7), (InvalidRule, {}))
        self.assertEqual(outcome(rule_where, 1, lambda row: False), (InvalidRule, {}))

    def test_the_test_is_called_once_for_each_row(self):
        for size in range(1, 8):
            calls = []
            rule_where(size, lambda row: calls.append(row) is None)
            self.assertEqual(calls, brute_rows(size))
            calls = []
            with self.assertRaises(InvalidRule):
                rule_where(size, lambda row: calls.append(row) is not None)
            self.assertEqual(calls, brute_rows(size))

    def test_an_error_of_the_test_is_passed_on(self):
        for kind in (ZeroDivisionError, KeyError, ValueError, InvalidRule, InvalidNumber, StopIteration, Exception):
            calls = []
            error = kind("told")

            def test(row):
                calls.append(row)
                if len(calls) == 3:
                    raise error
                return True

            with self.assertRaises(kind) as caught:
                rule_where(3, test)
            self.assertIs(caught.exception, error)
            self.assertEqual(calls, brute_rows(3)[:3])


class AskingRules(unittest.TestCase):
    def test_is_valid(self):
        for rule in RULES + (FREE_7,):
            size, rows = rule
            for row in brute_rows(size):
                self.assertIs(is_valid(rule, row), row in rows)
            right = {repr(row) for row in rows}
            for value in JUNK + tuple(mutants(rows[-1])):
                self.assertIs(is_valid(rule, value), repr(value) in right, value)

    def test_every_small_rule_with_every_partial_row(self):
        for size in (1, 2, 3):
            for rule in brute_rules(size):
                for partial in brute_partials(size):
                    self.check(rule, partial)

    def test_partial_rows_of_seven_keys(self):
        chance = random.Random(7)
        for _ in range(60):
            rows = sorted(chance.sample(FREE_7[1], chance.choice((2, 5, 20, 90))))
            rows = sorted({*rows, (0,) * 7, (1,) * 7})
            keys = sorted(chance.sample(range(7), chance.randrange(8)))
            self.check((7, tuple(rows)), tuple((key, chance.randrange(2)) for key in keys))

    def check(self, rule, partial):
        size, rows = rule
        found = [row for row in rows if all(row[key] == bit for key, bit in partial)]
        self.assertEqual(list(rows_with(rule, partial)), found)
        same = tuple((key, bit) for key in range(size) for bit in (0, 1) if all(row[key] == bit for row in found))
        expected = same if found else (InvalidPartial, {})
        self.assertEqual(repr(outcome(forced, rule, partial)), repr(expected))

    def test_wrong_rules(self):
        for rule in NO_RULES:
            for other in ((), ((0, 1),), None):
                self.assertEqual(outcome(is_valid, rule, other), (InvalidRule, {}))
                self.assertEqual(outcome(list, rows_with(rule, other)), (InvalidRule, {}))
                self.assertEqual(outcome(forced, rule, other), (InvalidRule, {}))

    def test_wrong_partial_rows(self):
        wrong = (((2, 0),), ((0, 0), (0, 1)), ((1, 0), (0, 0)), ((0, 2),), ((0, True),), ((False, 0),), [(0, 1)], (0, 1))
        for partial in tuple(value for value in JUNK if value != ()) + wrong:
            self.assertEqual(outcome(list, rows_with(IMPLY, partial)), (InvalidPartial, {}))
            self.assertEqual(outcome(forced, IMPLY, partial), (InvalidPartial, {}))
        self.assertEqual(outcome(forced, IMPLY, ((0, 1), (1, 0))), (InvalidPartial, {}))
        self.assertEqual(list(rows_with(IMPLY, ((0, 1), (1, 0)))), [])

    def test_generators_raise_when_the_first_result_is_asked_for(self):
        for made, kind in ((lambda: all_rows(0), InvalidNumber), (lambda: all_rows(None), InvalidNumber),
                           (lambda: rows_with(None, ()), InvalidRule), (lambda: rows_with((2, ()), 5), InvalidRule),
                           (lambda: rows_with(IMPLY, 5), InvalidPartial)):
            generator = made()
            self.assertIs(iter(generator), generator)
            with self.assertRaises(kind):
                next(generator)

    def test_equal_calls_return_equal_results(self):
        for _ in range(3):
            self.assertEqual(forced(ONE, ((1, 1),)), ((0, 0), (1, 1), (2, 0)))
            self.assertEqual(list(rows_with(IMPLY, ((1, 1),))), [(0, 1), (1, 1)])
            self.assertEqual(make_rule(2, (1, 1), (0, 0), (0, 1)), IMPLY)

    def test_wrong_arguments_stay_as_they_were(self):
        rule, partial = [2, [[0, 0], [1, 1]]], [[0, 1]]
        for call in (lambda: forced(rule, partial), lambda: forced(IMPLY, partial), lambda: make_rule(2, partial),
                     lambda: list(rows_with(rule, partial)), lambda: is_valid(rule, partial)):
            self.assertIn(outcome(call)[0], (InvalidRule, InvalidPartial, InvalidRow))
        self.assertEqual((rule, partial), ([2, [[0, 0], [1, 1]]], [[0, 1]]))


if __name__ == "__main__":
    unittest.main()
