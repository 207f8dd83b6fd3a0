"""Stage 2: formulas."""

import random
import re
import unittest
from itertools import product

from keywise.errors import InvalidFormula, InvalidNumber, InvalidPartial, InvalidRow, InvalidRule, ParseError, TooLarge
from keywise.rules import formulas
from keywise.rules.formulas import Formula, failing_row, holds_in, rule_of
from tests.support import ATMOST, EVEN, IMPLY, JUNK, NO_SIZES, ONE
from tests.support import brute_partials, brute_rows, brute_rules, mutants, outcome

K = [Formula.key(number) for number in range(7)]
A, B, C = K[:3]
JUNK_FORMULAS = tuple(value for value in JUNK if not isinstance(value, Formula))
PAIRS = (
    ("and", lambda a, b: a & b, (False, False, False, True)),
    ("or", lambda a, b: a | b, (False, True, True, True)),
    ("xor", lambda a, b: a ^ b, (False, True, True, False)),
    ("implies", lambda a, b: a >> b, (True, True, False, True)),
)
FULL = Formula.at_least(1, *[A] * 59)


def deep(depth):
    formula = A
    for _ in range(depth - 1):
        formula = ~formula
    return formula


DEEP = deep(8)
FULL_AND_DEEP = Formula.at_least(1, deep(7), *[A] * 52)


def random_formula(chance, depth):
    """Return a formula and a function of a row that says by itself whether it holds."""
    kind = chance.randrange(7) if depth > 1 else chance.choice((0, 0, 0, 6))
    if kind == 0:
        key = chance.randrange(7)
        return K[key], lambda row: row[key] == 1
    if kind == 1:
        a, holds = random_formula(chance, depth - 1)
        return ~a, lambda row: not holds(row)
    if kind < 6:
        (a, first), (b, second) = random_formula(chance, depth - 1), random_formula(chance, depth - 1)
        _, call, table = PAIRS[kind - 2]
        return call(a, b), lambda row: table[2 * first(row) + second(row)]
    made = [random_formula(chance, depth - 1) for _ in range(chance.randrange(4) if depth > 1 else 0)]
    count = chance.choice((0, 1, 2, 3, 60))
    return Formula.at_least(count, *[a for a, _ in made]), lambda row: sum(b(row) for _, b in made) >= count


def samples(many=120):
    """Return some formulas within the limits, with functions that say whether they hold."""
    chance = random.Random(11)
    found = []
    while len(found) < many:
        try:
            found.append(random_formula(chance, chance.randrange(1, 7)))
        except TooLarge:
            pass
    return found


FORM = re.compile(
    r"x[0-6]|not <[0-9]+>|\(<[0-9]+> (?:and|or|xor|implies) <[0-9]+>\)"
    r"|at least (?:60|[1-5]?[0-9]) of \((?:<[0-9]+>(?:, <[0-9]+>)*)?\)"
)


def shape(text):
    """Return the parts and the depth of the formula with this text, however large, or None.

    It replaces one part after another by its depth, so it shares nothing with the program.
    """
    if "<" in text:
        return None
    parts, found = 0, FORM.search(text)
    while found:
        depths = [int(depth) for depth in re.findall("<([0-9]+)>", found.group())]
        text = f"{text[:found.start()]}<{1 + max(depths, default=0)}>{text[found.end():]}"
        parts, found = parts + 1, FORM.search(text)
    return (parts, int(text[1:-1])) if re.fullmatch("<[0-9]+>", text) else None


class Making(unittest.TestCase):
    def test_limits(self):
        self.assertEqual(repr((formulas.MAX_PARTS, formulas.MAX_DEPTH)), "(60, 8)")

    def test_keys(self):
        for number in range(7):
            formula = Formula.key(number)
            self.assertIs(type(formula), Formula)
            self.assertEqual((str(formula), formula.used, formula.depth, len(formula)), (f"x{number}", (number,), 1, 1))
            for row in brute_rows(7):
                self.assertIs(formula(row), row[number] == 1)

    def test_wrong_numbers(self):
        for number in JUNK + (7, -1):
            self.assertEqual(outcome(Formula.key, number), (InvalidNumber, {"value": number}))
        with self.assertRaises(InvalidNumber) as caught:
            Formula.key(True)
        self.assertIs(caught.exception.value, True)

    def test_truth_tables(self):
        for formula, value in ((~A, (True, False)), (~~A, (False, True))):
            self.assertEqual(tuple(formula(row) for row in ((0,), (1,))), value)
        for word, call, table in PAIRS:
            formula = call(A, B)
            for row, value in zip(brute_rows(2), table):
                self.assertIs(formula(row), value, (word, row))
                self.assertIs(call(B, A)(row[::-1]), value, (word, row))
            self.assertEqual(str(formula), f"(x0 {word} x1)")
            self.assertEqual((len(formula), formula.depth, formula.used), (3, 2, (0, 1)))
        for word, call, table in PAIRS:
            self.assertIs(call(A, A)((0,)), table[0])
            self.assertIs(call(A, A)((1,)), table[3])

    def test_at_least_with_every_count(self):
        for many in range(8):
            made = K[:many]
            for count in range(61):
                formula = Formula.at_least(count, *made)
                listed = ", ".join(f"x{number}" for number in range(many))
                self.assertEqual(str(formula), f"at least {count} of ({listed})")
                self.assertEqual((len(formula), formula.depth), (1 + many, 2 if many else 1))
                self.assertEqual(formula.used, tuple(range(many)))
                for ones in range(8):
                    row = (1,) * ones + (0,) * (7 - ones)
                    self.assertIs(formula(row), min(ones, many) >= count, (count, many, row))

    def test_at_least_counts_repeats(self):
        formula = Formula.at_least(2, A, A, B)
        self.assertEqual([formula(row) for row in brute_rows(2)], [False, False, True, True])
        self.assertEqual((len(formula), formula.used), (4, (0, 1)))
        self.assertEqual(str(formula), "at least 2 of (x0, x0, x1)")
        self.assertIs(Formula.at_least(59, *[A] * 59)((1,)), True)
        self.assertIs(Formula.at_least(60, *[A] * 59)((1,)), False)

    def test_wrong_counts(self):
        for count in tuple(value for value in JUNK if value != 8) + (61, -1, "2"):
            for made in ((), (A, B), ("no formula",)):
                self.assertEqual(outcome(Formula.at_least, count, *made), (InvalidNumber, {"value": count}))

    def test_wrong_formulas_behind_the_count(self):
        for wrong in JUNK_FORMULAS:
            for made in ((wrong,), (A, wrong), (wrong, B), (FULL, FULL, wrong)):
                self.assertEqual(outcome(Formula.at_least, 2, *made), (InvalidFormula, {}))

    def test_containing(self):
        for partial in brute_partials(3) + [((6, 0),), tuple((key, key % 2) for key in range(7))]:
            formula = Formula.containing(partial)
            listed = ", ".join(f"x{key}" if bit else f"not x{key}" for key, bit in partial)
            self.assertEqual(str(formula), f"at least {len(partial)} of ({listed})")
            self.assertEqual(formula.used, tuple(key for key, _ in partial))
            self.assertEqual(len(formula), 1 + sum(2 - bit for _, bit in partial))
            self.assertEqual(formula.depth, 1 + max([2 - bit for _, bit in partial], default=0))
            for row in brute_rows(7):
                self.assertIs(formula(row), all(row[key] == bit for key, bit in partial))

    def test_containing_wrong_partial_rows(self):
        wrong = (((7, 0),), ((0, 2),), ((0, 0), (0, 1)), ((1, 0), (0, 0)), ((0, True),), ((True, 0),), [(0, 1)], (0, 1))
        for partial in tuple(value for value in JUNK if value != ()) + wrong:
            self.assertEqual(outcome(Formula.containing, partial), (InvalidPartial, {}))
        right = {repr(partial) for partial in brute_partials(7)}
        for partial in mutants(((0, 1), (3, 0), (6, 1))):
            found = outcome(Formula.containing, partial)
            self.assertEqual(isinstance(found, Formula), repr(partial) in right, partial)

    def test_operators_with_other_values(self):
        for formula in (A, FULL, DEEP):
            for wrong in JUNK_FORMULAS + ("x0", str(formula)):
                for word, call, _ in PAIRS:
                    self.assertEqual(outcome(call, formula, wrong), (InvalidFormula, {}), (word, wrong))

    def test_random_formulas(self):
        for formula, holds in samples():
            for row in brute_rows(7):
                self.assertIs(formula(row), holds(row))


class Limits(unittest.TestCase):
    def too_large(self, limit, call, *args):
        self.assertEqual(outcome(call, *args), (TooLarge, {"limit": limit}))

    def test_sixty_parts(self):
        self.assertEqual((len(FULL), FULL.depth), (60, 2))
        self.too_large(60, Formula.at_least, 1, *[A] * 60)
        self.too_large(60, Formula.at_least, 0, FULL)
        self.too_large(60, Formula.at_least, 0, *[FULL] * 5)
        self.too_large(60, lambda: ~FULL)
        self.assertEqual(len(~Formula.at_least(1, *[A] * 58)), 60)
        for _, call, _ in PAIRS:
            large = Formula.at_least(1, *[A] * 57)
            self.assertEqual(len(call(large, A)), 60)
            self.assertEqual(len(call(A, large)), 60)
            self.too_large(60, call, large, ~A)
            self.too_large(60, call, ~A, large)
            self.too_large(60, call, FULL, FULL)

    def test_parts_that_occur_twice_count_twice(self):
        formula = A
        for parts in (3, 7, 15, 31):
            formula = formula & formula
            self.assertEqual(len(formula), parts)
        self.too_large(60, lambda: formula & formula)

    def test_depth_of_eight(self):
        self.assertEqual((len(DEEP), DEEP.depth), (8, 8))
        self.too_large(8, lambda: ~DEEP)
        self.too_large(8, Formula.at_least, 1, A, DEEP)
        for _, call, _ in PAIRS:
            self.assertEqual(call(deep(7), A).depth, 8)
            self.assertEqual(call(A, deep(7)).depth, 8)
            self.too_large(8, call, DEEP, A)
            self.too_large(8, call, A, DEEP)

    def test_the_limit_of_parts_comes_first(self):
        self.assertEqual((len(FULL_AND_DEEP), FULL_AND_DEEP.depth), (60, 8))
        self.too_large(60, lambda: ~FULL_AND_DEEP)
        self.too_large(60, Formula.at_least, 1, FULL_AND_DEEP)
        for _, call, _ in PAIRS:
            self.too_large(60, call, FULL_AND_DEEP, A)
            self.too_large(60, call, A, FULL_AND_DEEP)
            self.assertEqual(outcome(call, FULL_AND_DEEP, "x0"), (InvalidFormula, {}))
        self.assertEqual(outcome(Formula.at_least, 61, FULL_AND_DEEP), (InvalidNumber, {"value": 61}))
        self.assertEqual(outcome(Formula.at_least, 1, FULL_AND_DEEP, 5), (InvalidFormula, {}))


class Asking(unittest.TestCase):
    def test_rows_that_do_not_fit(self):
        for formula, least in ((A, 1), (C, 3), (K[6], 7), (A & C, 3), (Formula.at_least(1), 1), (~(K[4] | A), 5)):
            for size in range(10):
                for bit in (0, 1):
                    found = outcome(formula, (bit,) * size)
                    if least <= size <= 7:
                        self.assertIn(found, (True, False))
                    else:
                        self.assertEqual(found, (InvalidRow, {}), (str(formula), size))

    def test_values_that_are_no_rows(self):
        wrong = ([0, 1], (0, True), (False, 1), (0, 2), (0, -1), ("0", "1"), ((0, 1),), (0, None), "01", {0: 1}, 1)
        for row in JUNK + wrong:
            for formula in (A, Formula.at_least(0), ~A & B):
                self.assertEqual(outcome(formula, row), (InvalidRow, {}), row)

    def test_used(self):
        self.assertEqual((C | A).used, (0, 2))
        self.assertEqual((K[6] & K[6]).used, (6,))
        self.assertEqual(Formula.at_least(3).used, ())
        self.assertEqual(Formula.at_least(1, K[5], ~K[3], K[5] ^ K[0]).used, (0, 3, 5))
        for formula, _ in samples():
            keys = sorted({int(key) for key in re.findall("x([0-6])", str(formula))})
            self.assertEqual(repr(formula.used), repr(tuple(keys)))

    def test_parts_and_depth(self):
        self.assertEqual((len(Formula.at_least(7)), Formula.at_least(7).depth), (1, 1))
        self.assertEqual((len((A & ~B) >> C), ((A & ~B) >> C).depth), (6, 4))
        for formula, _ in samples():
            self.assertEqual((len(formula), formula.depth), shape(str(formula)))

    def test_properties_cannot_be_assigned(self):
        formula = A & B
        for name in ("used", "depth"):
            with self.assertRaises(AttributeError):
                setattr(formula, name, 5)
        self.assertEqual((formula.used, formula.depth, len(formula), str(formula)), ((0, 1), 2, 3, "(x0 and x1)"))

    def test_making_others_changes_no_formula(self):
        a, b = Formula.key(0), Formula.at_least(1, B, C)
        for call in (lambda: ~a, lambda: a & b, lambda: a | b, lambda: a ^ b, lambda: a >> b,
                     lambda: Formula.at_least(2, a, b), lambda: a & FULL, lambda: a & None, lambda: b("row")):
            outcome(call)
            self.assertEqual([str(a), str(b)], ["x0", "at least 1 of (x1, x2)"])
            self.assertEqual([len(a), len(b), a.depth, b.depth, a.used, b.used], [1, 3, 1, 2, (0,), (1, 2)])

    def test_equal(self):
        for formula, _ in samples(60):
            for other, _ in samples(60):
                same = str(formula) == str(other)
                self.assertIs(formula == other, same)
                self.assertIs(formula != other, not same)
        self.assertIs(A & B == Formula.key(0) & Formula.key(1), True)
        self.assertIs(Formula.containing(((0, 1),)) == Formula.at_least(1, A), True)
        for other in (B & A, A | B, ~(A & B), (A & B) & A, Formula.at_least(2, A, B)):
            self.assertIs(A & B == other, False)

    def test_equal_with_other_values(self):
        for formula in (A, Formula.at_least(0), ~B):
            for value in JUNK_FORMULAS + (str(formula), (formula,), [formula], Formula, int):
                self.assertIs(formula == value, False)
                self.assertIs(value == formula, False)
                self.assertIs(formula != value, True)


class Texts(unittest.TestCase):
    def test_every_form(self):
        for formula, text in (
            (A, "x0"), (K[6], "x6"), (~A, "not x0"), (~~A, "not not x0"), (A & B, "(x0 and x1)"),
            (A | B, "(x0 or x1)"), (A ^ B, "(x0 xor x1)"), (A >> B, "(x0 implies x1)"),
            (~(A & ~B), "not (x0 and not x1)"), ((A | B) >> ~C, "((x0 or x1) implies not x2)"),
            (A | (B >> C), "(x0 or (x1 implies x2))"), (~A & B, "(not x0 and x1)"),
            (Formula.at_least(1), "at least 1 of ()"), (Formula.at_least(0), "at least 0 of ()"),
            (Formula.at_least(60), "at least 60 of ()"), (Formula.at_least(10, A), "at least 10 of (x0)"),
            (Formula.at_least(2, A, ~B, C & A), "at least 2 of (x0, not x1, (x2 and x0))"),
            (~Formula.at_least(3, Formula.at_least(2), A), "not at least 3 of (at least 2 of (), x0)"),
            (Formula.at_least(2, A) ^ B, "(at least 2 of (x0) xor x1)"),
        ):
            self.assertEqual(str(formula), text)
            self.assertIs(type(str(formula)), str)
            found = Formula.read(text)
            self.assertIs(type(found), Formula)
            self.assertEqual((str(found), len(found), found.depth, found.used),
                             (text, len(formula), formula.depth, formula.used))
            self.assertEqual([found(row) for row in brute_rows(7)], [formula(row) for row in brute_rows(7)])

    def test_both_directions(self):
        for formula, holds in samples():
            found = Formula.read(str(formula))
            self.assertEqual((str(found), len(found), found.depth), (str(formula), len(formula), formula.depth))
            for row in brute_rows(7)[::5]:
                self.assertIs(found(row), holds(row))

    def test_texts_that_are_almost_right(self):
        texts = ["x3", "not x0", "(x0 and x1)", "(x0 or not x2)", "at least 1 of ()", "at least 21 of (x0, x1)",
                 "((x0 xor x1) implies at least 2 of (x0, (x1 or x2)))", "not at least 60 of (not x6, x0)"]
        for text in texts:
            self.check(text)
            for at in range(len(text) + 1):
                for piece in ("", " ", "(", ")", ",", ", ", "x", "0", "1", "6", "7", "x0", "not ", " and ", "F", "\n"):
                    self.check(text[:at] + piece + text[at:])
                    self.check(text[:at] + piece + text[at + 1:])
                    self.check(text[:at] + piece + text[at + 2:])

    def check(self, text):
        """Return whether the text is read, after comparing that with what it must be."""
        parts, depth = shape(text) or (61, 9)
        right = parts <= 60 and depth <= 8
        found = outcome(Formula.read, text)
        if right:
            self.assertEqual((str(found), len(found), found.depth), (text, parts, depth))
        else:
            self.assertEqual(found, (ParseError, {}), text)
        return right

    def test_wrong_texts(self):
        for text in (
            "", " ", "x", "x7", "x8", "x9", "x00", "x01", "x10", "x-1", "x0 ", " x0", "x0\n", "\nx0", "X0", "0", "x 0",
            "x0x1", "x0 x1", "(x0)", "()", "x0 and x1", "(x0 and x1", "x0 and x1)", "(x0 and x1))", "((x0 and x1)",
            "(x0  and x1)", "(x0 and  x1)", "( x0 and x1)", "(x0 and x1 )", "(x0and x1)", "(x0 andx1)", "(x0 and)",
            "(x0 AND x1)", "(x0 nand x1)", "(x0 & x1)", "(x0, x1)", "(x0 and x1 and x2)", "(and x0 x1)", "(x0 not x1)",
            "not", "not ", "notx0", "not  x0", "not(x0 and x1)", "Not x0", "~x0", "not x0 and x1", "(x0 or x1) ",
            "at least 2 of", "at least 2 of (", "at least 2 of )", "at least 02 of (x0)", "at least 00 of ()",
            "at least 61 of ()", "at least 100 of ()", "at least -1 of ()", "at least +1 of ()", "at least of ()",
            "at least  2 of (x0)", "at least 2  of (x0)", "at least 2 of  (x0)", "at least 2 of(x0)", "at least2 of (x0)",
            "at least 2 of (x0,x1)", "at least 2 of (x0,  x1)", "at least 2 of (x0 , x1)", "at least 2 of (x0, )",
            "at least 2 of (, x0)", "at least 2 of (x0 x1)", "at least 2 of ( )", "at least 2 of (x0,)",
            "at least two of (x0)", "at  least 2 of (x0)", "at most 2 of (x0)", "At least 2 of (x0)", "exactly 2 of (x0)",
            "at least 2 of [x0]", "at least 2 of x0", "x\u0663", "at least \u0662 of (x0)", "x\u00b2", "x\uff11",
            "(x0\u00a0and x1)", "(x0\tand x1)", "x0;", "x0#", "'x0'", "(x0 or x1)x2", "not x0not x1", "None", "True",
            "at least 2.0 of ()", "at least 1_0 of ()", "at least 1e1 of ()", "at least 0x1 of ()",
        ):
            self.assertEqual(outcome(Formula.read, text), (ParseError, {}), text)

    def test_values_that_are_no_strings(self):
        for value in JUNK + (A, (A,), ["x0"], ("x0",), {"x0": 1}, b"x0"):
            if value != "x0":
                self.assertEqual(outcome(Formula.read, value), (ParseError, {}), value)

    def test_texts_at_the_limits(self):
        for keys in (0, 1, 58, 59, 60, 61, 200):
            self.assertIs(self.check(f"at least 1 of ({', '.join(['x0'] * keys)})"), keys < 60)
        for nots in (0, 1, 6, 7, 8, 9, 200):
            self.assertIs(self.check("not " * nots + "x0"), nots < 8)
        for depth in (1, 2, 7, 8, 9, 10, 200):
            for left, leaf, end in (("(x0 and ", "x1", ")"), ("(", "x1", " or x0)"), ("at least 1 of (", "x0", ")"),
                                    ("at least 1 of (x0, ", "at least 0 of ()", ")")):
                self.assertIs(self.check(left * (depth - 1) + leaf + end * (depth - 1)), depth < 9)
        for formula in (FULL, DEEP, FULL_AND_DEEP):
            self.assertEqual(Formula.read(str(formula)), formula)
            for text in (f"not {formula}", f"({formula} and x0)", f"(x0 and {formula})", f"at least 1 of ({formula})"):
                self.assertEqual(outcome(Formula.read, text), (ParseError, {}))

    def test_sixty_parts_in_many_branches(self):
        half = "at least 1 of (" + ", ".join(["not x1"] * 14) + ")"
        right = f"({half} or {half})"
        self.assertEqual(len(Formula.read(right)), 59)
        self.assertEqual(len(Formula.read(f"not {right}")), 60)
        self.assertEqual(outcome(Formula.read, f"not not {right}"), (ParseError, {}))

    def test_long_and_deeply_nested_texts(self):
        many = 100000
        for text in ("(" * many, ")" * many, "not " * many, "x0" * many, " " * many, "at least 1 of (" * many,
                     "(x0 and " * many, "(" * many + "x0" + " and x1)" * many, "x0" + " " * many, "0" * many,
                     "at least " + "1" * many + " of ()", "at least 1 of (" + "x0, " * many + "x0)"):
            self.assertEqual(outcome(Formula.read, text), (ParseError, {}))


class Rules(unittest.TestCase):
    def test_rule_of(self):
        for size in range(1, 8):
            self.assertEqual(rule_of(size), (size, tuple(brute_rows(size))))
        self.assertEqual(repr(rule_of(2, A >> B)), repr(IMPLY))
        self.assertEqual(rule_of(3, A | B | C, ~(A & B), ~(A & C), ~(B & C)), ONE)
        self.assertEqual(rule_of(3, ~(A ^ B ^ C), Formula.at_least(0)), EVEN)
        self.assertEqual(rule_of(1, Formula.at_least(0)), (1, ((0,), (1,))))

    def test_rule_of_against_all_rows(self):
        rules = {rule[1] for rule in brute_rules(3)}
        made = [formula for formula, _ in samples(400) if all(key < 3 for key in formula.used)]
        self.assertGreater(len(made), 30)
        for first, second in product(made[:40], repeat=2):
            rows = tuple(row for row in brute_rows(3) if first(row) and second(row))
            expected = (3, rows) if rows in rules else (InvalidRule, {})
            self.assertEqual(outcome(rule_of, 3, first, second), expected)

    def test_rule_of_errors(self):
        for size in NO_SIZES:
            self.assertEqual(outcome(rule_of, size), (InvalidNumber, {"value": size}))
            self.assertEqual(outcome(rule_of, size, "x0", K[6]), (InvalidNumber, {"value": size}))
        for wrong in JUNK_FORMULAS + (C, A & K[6], Formula.at_least(0, C)):
            self.assertEqual(outcome(rule_of, 2, wrong), (InvalidFormula, {}))
            self.assertEqual(outcome(rule_of, 2, A, wrong), (InvalidFormula, {}))
            self.assertEqual(outcome(rule_of, 2, A & ~A, wrong), (InvalidFormula, {}))
        for wrong in (A, ~B, A & ~A, Formula.at_least(1), A & B, A ^ A):
            self.assertEqual(outcome(rule_of, 2, wrong), (InvalidRule, {}))
        self.assertEqual(outcome(rule_of, 7, K[6]), (InvalidRule, {}))
        self.assertEqual(rule_of(7, ~K[6] | K[0])[0], 7)

    def test_formulas_in_rules(self):
        for rule in brute_rules(2) + [ONE, EVEN, ATMOST, (7, ((0,) * 7, (1,) * 7))]:
            size, rows = rule
            for formula, _ in samples():
                if formula.used and formula.used[-1] >= size:
                    expected = (InvalidFormula, {})
                    self.assertEqual(outcome(holds_in, rule, formula), expected)
                    self.assertEqual(outcome(failing_row, rule, formula), expected)
                else:
                    failing = [row for row in rows if not formula(row)]
                    self.assertIs(holds_in(rule, formula), not failing)
                    self.assertEqual(failing_row(rule, formula), failing[0] if failing else None)

    def test_wrong_rules_and_formulas(self):
        for call in (holds_in, failing_row):
            for rule in JUNK + ((2, ()), (2, ((0, 0), (0, 1))), [2, ((0, 0), (1, 1))]):
                for formula in (A, "x0", K[6]):
                    self.assertEqual(outcome(call, rule, formula), (InvalidRule, {}))
            for wrong in JUNK_FORMULAS + (C, A >> K[6]):
                self.assertEqual(outcome(call, IMPLY, wrong), (InvalidFormula, {}))


if __name__ == "__main__":
    unittest.main()
