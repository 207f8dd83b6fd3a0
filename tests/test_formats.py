"""Stage 17: texts."""

import random
import unittest
from fractions import Fraction
from itertools import product
from math import gcd

from keywise.choices.arrows import closed_walk, walk
from keywise.choices.choices import Choice
from keywise.errors import InvalidFormula, InvalidNumber, InvalidPartial, InvalidRow, InvalidRule, ParseError, TooLarge
from keywise.lattice.lattice import Sides
from keywise.levels.levels import order_levels, tension
from keywise.levels.thresholds import Thresholds
from keywise.parity.parity import Parity
from keywise.policies.policies import Copy, Table
from keywise.text.formats import format_equations, format_fraction, format_partial, format_row, format_rule, format_walk
from keywise.text.formats import parse_equations, parse_fraction, parse_partial, parse_policy, parse_row, parse_rule
from keywise.text.formats import pattern_table
from tests import brute
from tests.support import ATMOST, EVEN, IMPLY, JUNK, NO_SIZES, ONE
from tests.support import brute_partials, brute_rows, brute_rules, check_errors, counted_rules, mutants, outcome
from tests.support import policies_of, sample_rules
from tests.test_parity import NO_EQUATIONS, all_equations
from tests.test_rules import FREE_1, FREE_7, LAST_7, NO_RULES

REFUSED = (ParseError, {})
NO_TEXTS = tuple(value for value in JUNK if not isinstance(value, str)) + (b"0", b"01", ("0",), ["01"], {"01": 1}, ParseError)
SIGNS = (
    " ", "  ", "\n", "\t", "\r", "\u00a0", "\u2009", "0", "1", "2", "7", "9", "+", "-", "=", "/", ",", ", ", ":", "_", ".", "a", "none",
    "\u0660", "\u0661", "\u00b9", "\uff10", "\uff11", "\U0001d7ce", "\ud800", "\x00", "=0", " 0=1", "00", "#", "'", "e", "None",
)
LONG = ("0" * 5000, "01 " * 3000, "0=1 " * 2000, "0+" * 3000 + "1=0", "9" * 5000, "-" * 4000, " " * 4000, "1/" * 4000,
        "none" * 2000, "table " + "0" * 9000, "table" + " 0001" * 3000, "sides of 2:" + " min" * 3000, "x" * 100000, "0=1," * 3000,
        "choice of 3 keys:" + " 0=1" * 3000, "thresholds of 3:" + " 1" * 3000, "copy " * 2000, "1" * 4301, "1/" + "2" * 4400)


def variants(text):
    """Texts that differ from this one in a few signs."""
    for at in range(len(text) + 1):
        for sign in SIGNS:
            yield text[:at] + sign + text[at:]
            yield text[:at] + sign + text[at + 1:]
        yield text[:at] + text[at + 1:]
        yield text[:at] + text[at:at + 2][::-1] + text[at + 2:]
        yield text[:at]
        yield text[at:]
        yield text[:at] + text[at:].upper()
    for word in text.split(" "):
        yield text.replace(word, "", 1)
        yield text.replace(word, word + " " + word, 1)
        yield text.replace(word, "keys", 1)
    yield from (text + text, text + "\n", "\n" + text, " " + text, text + " ", repr(text), text.replace(" ", "\t"), "+" + text)


class Case(unittest.TestCase):
    def check_texts(self, parse, values, samples, step=1):
        """Check that the texts in the dict are parsed into its values, and that no other texts are parsed at all."""
        for text, value in values.items():
            self.assertEqual(repr(parse(text)), repr(value))
        for text in samples:
            for other in list(variants(text))[::step]:
                found = outcome(parse, other)
                if other in values:
                    self.assertEqual(repr(found), repr(values[other]))
                else:
                    self.assertEqual(found, REFUSED, other)
        for text in NO_TEXTS + LONG + ("", " ", "x", "None", "()"):
            self.assertEqual(outcome(parse, text), REFUSED, repr(text)[:60])


class Rows(Case):
    def test_rows(self):
        every = {"".join(map(str, row)): row for size in range(1, 8) for row in brute_rows(size)}
        for text, row in every.items():
            self.assertEqual(format_row(row), text)
        self.check_texts(parse_row, every, ("0", "1", "010", "1110000", "0101010"))
        self.assertEqual(outcome(parse_row, "0" * 8), REFUSED)

    def test_rules(self):
        rules = [rule for size in (1, 2, 3) for rule in brute_rules(size)] + sample_rules(5, 4, 180) + [FREE_7, LAST_7]
        every = {" ".join("".join(map(str, row)) for row in rule[1]): rule for rule in rules}
        for text, rule in every.items():
            self.assertEqual(format_rule(rule), text)
        self.check_texts(parse_rule, every, ("0 1", "00 11", "00 01 11", "001 010 100", "01 10"))
        for text in ("1 0", "0 0", "0", "00 01", "00 11 01", "00 11 11", "0 11", "00 1", "00  11", "00,11", "none", "000 111 01"):
            self.assertEqual(outcome(parse_rule, text), REFUSED)

    def test_errors(self):
        wrong = JUNK + ((), (0,) * 8, (2,), (0, True), [0, 1], "01", (0, None))
        check_errors(self, format_row, ((0, 1),), ((0, tuple(each for each in wrong), InvalidRow),))
        check_errors(self, format_rule, (IMPLY,), ((0, NO_RULES, InvalidRule),))


class Partials(Case):
    def test_partial_rows(self):
        for size in (1, 2, 3, 7):
            partials = brute_partials(size)
            every = {" ".join(f"{key}={bit}" for key, bit in partial) or "none": partial for partial in partials}
            for text, partial in every.items():
                self.assertEqual(format_partial(size, partial), text)
            samples = ["none", "0=1"] + (["0=1 1=0"] if size > 1 else []) + (["0=0 2=1"] if size > 2 else [])
            self.check_texts(lambda text: parse_partial(size, text), every, samples)
        self.assertEqual(outcome(parse_partial, 2, "2=0"), REFUSED)
        for text in ("1=0 0=0", "0=0 0=1", "0=0 0=0", "0=2", "00=1", "0=01", "0 =1", "0==1", "=", "0", "0=", "=1", "0=1,1=1", "none none"):
            self.assertEqual(outcome(parse_partial, 3, text), REFUSED)

    def test_errors(self):
        partials = tuple(value for value in JUNK if value != ()) + (((3, 0),), ((1, 0), (0, 0)), [(0, 1)], ((0, True),), "0=0")
        check_errors(self, format_partial, (3, ((0, 1),)), ((0, NO_SIZES, InvalidNumber), (1, partials, InvalidPartial)))
        check_errors(self, parse_partial, (3, "0=1"), ((0, NO_SIZES, InvalidNumber), (1, NO_TEXTS + ("", "0"), ParseError)))


class Equations(Case):
    def test_equations(self):
        chance = random.Random(181)
        for size in (1, 2, 3, 7):
            every = {"none": ()}
            known = all_equations(size)
            values = [(equation,) for equation in known] + [tuple(chance.choice(known) for _ in range(many)) for many in (2, 2, 3, 9)]
            for value in values:
                text = ", ".join("+".join(map(str, keys)) + f"={bit}" for keys, bit in value)
                every[text] = value
                self.assertEqual(format_equations(size, value), text)
            self.assertEqual(format_equations(size, ()), "none")
            for text, value in every.items():
                self.assertEqual(repr(parse_equations(size, text)), repr(value))
        words = [("+".join(map(str, keys)) + f"={bit}", (keys, bit)) for keys, bit in all_equations(3)]
        few = {"none": ()}
        for many in (1, 2, 3):
            for each in product(words, repeat=many):
                few[", ".join(text for text, _ in each)] = tuple(equation for _, equation in each)
        self.check_texts(lambda text: parse_equations(3, text), few, ("none", "0=1", "0+2=1", "0+1=1, 1=0", "1=0, 1=0"))
        many = ", ".join(["0+1+2=1"] * 2000)
        self.assertEqual(parse_equations(3, many), (((0, 1, 2), 1),) * 2000)
        self.assertEqual(outcome(parse_equations, 3, many + ","), REFUSED)
        for text in ("1+0=1", "0+0=1", "=1", "0=2", "3=0", "+0=1", "0+=1", "0+1", "0=1,1=0", "0=1 , 1=0", "0=1, ", ", 0=1", "0=1=1"):
            self.assertEqual(outcome(parse_equations, 3, text), REFUSED)

    def test_errors(self):
        check_errors(self, format_equations, (7, (((0, 6), 1),)), ((0, NO_SIZES, InvalidNumber), (1, tuple(
            value for value in NO_EQUATIONS if value != (((7,), 1),)) + ((((7,), 1),),), InvalidFormula)))
        check_errors(self, parse_equations, (3, "0=1"), ((0, NO_SIZES, InvalidNumber), (1, NO_TEXTS + ("", "0"), ParseError)))


class Fractions(Case):
    def test_fractions(self):
        every = {}
        for above, below in product(range(-30, 31), range(1, 31)):
            if gcd(above, below) == 1:
                every[str(Fraction(above, below))] = (above, below)
        great = 10 ** 40 - 1
        for value in ((great, 1), (-great, 1), (great, great - 1), (1, great), (-1, great), (10 ** 39, 1), (10 ** 39 + 1, 10 ** 39)):
            every[str(Fraction(*value))] = value
        for text, value in every.items():
            self.assertEqual(format_fraction(value), text)
        known = {text for text in every}
        for text in ("0", "2", "-3", "3/2", "-3/2", "12", "1/30", "-10/7"):
            for other in variants(text):
                found = outcome(parse_fraction, other)
                if other in known:
                    self.assertEqual(found, every[other])
                elif found != REFUSED:
                    self.assertEqual(format_fraction(found), other)
        for text, value in every.items():
            self.assertEqual(repr(parse_fraction(text)), repr(value))
        for text in NO_TEXTS + LONG + (
            "", "-", "/", "1/", "/2", "-0", "00", "01", "-01", "+1", "1/1", "2/1", "0/1", "0/2", "2/4", "1/0", "1/-2", "-1/-2", "1/02",
            "--1", "1 /2", "1/ 2", " 1", "1\n", "1/2/3", "1.0", "1e3", "1_0", "\u0661", "1/\u0662", "\u00b2", str(10 ** 40),
            str(-10 ** 40), f"1/{10 ** 40}", "0" * 41, "none", "- 1", "\u22121",
        ):
            self.assertEqual(outcome(parse_fraction, text), REFUSED, repr(text)[:60])

    def test_forty_digits(self):
        great = 10 ** 40
        for value in ((great, 1), (-great, 1), (1, great), (great, great + 1), (-great, great - 1), (great + 1, 3 ** 90)):
            self.assertEqual(outcome(format_fraction, value), (TooLarge, {"limit": 40}))
        for value in ((great, great), (great, 2), (0, great), (great, -1)):
            self.assertEqual(outcome(format_fraction, value), (InvalidNumber, {"value": value}))

    def test_returned_fractions(self):
        for value in [tension(rule) for rule in (ONE, EVEN, ATMOST)] + list(order_levels(((0, 1), (1, 0), (2, 1)))):
            self.assertEqual(parse_fraction(format_fraction(value)), value)

    def test_errors(self):
        wrong = JUNK + ((1, 0), (2, 2), (0, 2), (1, -1), (True, 2), (1, True), [1, 2], (1, 2, 3), (1,), 1, "1/2", ((1, 2),), (None, 1))
        check_errors(self, format_fraction, ((3, 2),), ((0, wrong, InvalidNumber),))


class Walks(unittest.TestCase):
    def test_walks(self):
        for rule in (IMPLY, ONE, ATMOST, EVEN, FREE_1):
            for first, second in product(brute.literals(rule[0]), repeat=2):
                value = walk(rule, first, second)
                if value is not None:
                    self.assertEqual(format_walk(rule, value), " -> ".join(f"{key}={bit}" for (key, bit), _ in value))
        once = closed_walk(ONE)
        self.assertEqual(format_walk(ONE, once[:-1] + once).count(" -> "), 2 * len(once) - 2)
        self.assertEqual(format_walk(IMPLY, (((1, 0), None),)), "1=0")

    def test_errors(self):
        value = walk(ONE, (0, 1), (0, 0))
        check_errors(self, format_walk, (ONE, value), ((0, NO_RULES, InvalidRule), (1, JUNK + (value[1:][::-1], value[:-1]), InvalidPartial)))
        for other in mutants(value):
            found = outcome(format_walk, ONE, other)
            self.assertEqual(found != (InvalidPartial, {}), brute.is_walk(ONE, other), other)


class Policies(Case):
    def test_all_classes(self):
        chance = random.Random(182)
        every = [policy for size in range(1, 8) for _ in range(3) for policy in policies_of(size, chance)]
        every += [Copy(n, 7, r) for n in range(2, 7) for r in range(n)] + [Parity(5, 7), Choice(1, ()), Choice(2, ((0, 0), (0, 1)))]
        for policy in every:
            found = parse_policy(str(policy))
            self.assertIs(type(found), type(policy))
            self.assertTrue(found == policy)
            self.assertEqual(str(found), str(policy))

    def test_classes_that_refuse(self):
        for text in (
            "copy 2 of 2 for 3 keys", "copy 0 of 1 for 3 keys", "copy 0 of 7 for 3 keys", "copy 0 of 2 for 0 keys", "copy 0 of 2 for 8 keys",
            "copy -1 of 2 for 3 keys", "copy 00 of 2 for 3 keys", "copy 0 of 2 for 3 key", "copy 0 of 2 for 1 key", "copy 0 of 2 for 3", "copy",
            "table", "table 0000", "table 1001", "table 0001 01", "table 0001 00000001", "table 01", "table none", "table 0001  0001",
            "table 0001 0001 0001 0001 0001 0001 0001 0001", "table 0002", "table " + "0" * 127 + "1", "table 0001\n",
            "choice of 3 keys: ", "choice of 3 keys:", "choice of 3 keys", "choice of 3 keys: 3=0", "choice of 3 keys: 1=0 0=0",
            "choice of 3 keys: 0=0 0=0", "choice of 0 keys: none", "choice of 8 keys: none", "choice of 3 keys: None", "choice of 3 keys: 0=2",
            "choice of 1 key: none", "choice of 3 keys: none ", "choice of 3 keys: 0=0 none", "choice of 3  keys: none",
            "thresholds of 3:", "thresholds of 3: ", "thresholds of 3: 0", "thresholds of 3: 4", "thresholds of 1: 1", "thresholds of 7: 1",
            "thresholds of 3: 1 2 3 1 2 3 1 2", "thresholds of 3: 01", "thresholds of 3 : 1", "thresholds of 3: 1,2", "thresholds of: 1",
            "sides of 2:", "sides of 2: ", "sides of 2: Min", "sides of 1: min", "sides of 7: min", "sides of 2: min  max", "sides of 2: 0",
            "sides of 2: min min min min min min min min", "sides of 2:min", "sides on 2: min", "side of 2: min", "sides of 2: minmax",
            "parity of 4 for 2 keys", "parity of 2 for 2 keys", "parity of 3 for 0 keys", "parity of 3 for 8 keys", "parity of 3 for 2 key",
            "parity of 3 for 2 keys ", "parity of 3", "parity", "Parity of 3 for 2 keys", "policy 0001", "min max", "none", "0001",
        ):
            self.assertEqual(outcome(parse_policy, text), REFUSED, text)

    def test_texts_that_differ(self):
        samples = ("table 0001 0111", "copy 1 of 3 for 4 keys", "choice of 3 keys: 0=1 2=0", "choice of 1 keys: none",
                   "thresholds of 3: 1 2 3", "sides of 2: min max", "parity of 3 for 4 keys")
        for text in samples:
            for other in variants(text):
                found = outcome(parse_policy, other)
                if found != REFUSED:
                    self.assertEqual(str(found), other)
                    self.assertTrue(is_text(other), other)
                else:
                    self.assertFalse(is_text(other), other)
        for text in NO_TEXTS + LONG + ("", " "):
            self.assertEqual(outcome(parse_policy, text), REFUSED)


def is_text(text):
    """Whether the text is one of a policy, by a form for each class."""
    return any(text in each for each in KNOWN_TEXTS)


def known_texts():
    tables = {"table " + " ".join(words) for many in (1, 2, 3) for words in product(("0001", "0011", "0101", "0111"), repeat=many)}
    tables |= {"table 0" + "".join(bits) + "1" for bits in product("01", repeat=6)}
    copies = {f"copy {r} of {n} for {size} keys" for n in range(2, 7) for r in range(n) for size in range(1, 8)}
    choices = set()
    for size in range(1, 8):
        literals = [f"{key}={bit}" for key in range(size) for bit in (0, 1)]
        if size < 5:
            for taken in product((False, True), repeat=len(literals)):
                choices.add(f"choice of {size} keys: " + (" ".join(x for x, take in zip(literals, taken) if take) or "none"))
        else:
            choices |= {f"choice of {size} keys: {' '.join(each)}" for each in
                        [(x,) for x in literals] + [(x, y) for x in literals for y in literals if x < y] + [
                            (x, y, z) for x in literals for y in literals for z in literals if x < y < z]} | {f"choice of {size} keys: none"}
    numbers = {f"thresholds of {n}: " + " ".join(map(str, each)) for n in range(2, 7) for many in range(1, 5)
               for each in product(range(1, n + 1), repeat=many)}
    sides = {f"sides of {n}: " + " ".join(each) for n in range(2, 7) for many in range(1, 5) for each in product(("min", "max"), repeat=many)}
    parities = {f"parity of {n} for {size} keys" for n in (3, 5) for size in range(1, 8)}
    return tables, copies, choices, numbers, sides, parities


KNOWN_TEXTS = known_texts()


class PatternTables(unittest.TestCase):
    def expected(self, rule):
        lines = []
        for at, pattern in enumerate(brute.patterns(rule)):
            lines.append(str(at).rjust(3) + str(len(pattern)).rjust(2) + "  " + " ".join(f"{key}={bit}" for key, bit in pattern))
        return "\n".join(lines + ["tension " + str(Fraction(*tension(rule)))])

    def test_tables(self):
        for rule in brute_rules(2) + brute_rules(3)[::10] + [ONE, EVEN, ATMOST, FREE_1] + sample_rules(4, 3, 183) + counted_rules(6)[::20]:
            self.assertEqual(pattern_table(rule), self.expected(rule))
        self.assertEqual(pattern_table(FREE_7), "tension 0")
        self.assertEqual(pattern_table(EVEN).split("\n")[-1], "tension 3/2")
        many = max(counted_rules(7)[::9] + sample_rules(7, 3, 184), key=lambda rule: len(pattern_table(rule)))
        self.assertEqual(pattern_table(many), self.expected(many))
        self.assertIn("\n100 ", pattern_table(many))

    def test_errors(self):
        check_errors(self, pattern_table, (ONE,), ((0, NO_RULES, InvalidRule),))


if __name__ == "__main__":
    unittest.main()
