"""Formulas, which say something about the bits of a row."""

from keywise.errors import InvalidFormula, InvalidPartial, InvalidRow, ParseError, TooLarge
from keywise.rules.rules import MAX_KEYS, check_between, check_rule, check_size, is_partial, is_row_of_some_size
from keywise.rules.rules import rule_where

MAX_PARTS = 60
MAX_DEPTH = 8
MAX_COUNT = 60

PAIR_WORDS = ("and", "or", "xor", "implies")


class Formula:
    """A formula. It is made by the static methods and the operators, and it never changes."""

    def __init__(self, word, number, formulas):
        self._word = word
        self._number = number
        self._formulas = formulas
        self._text = text_of(word, number, formulas)
        # The texts of all parts, with repeats, so that their number is the number of the parts.
        self._parts = tuple([self._text] + [part for formula in formulas for part in formula._parts])
        self._depth = 1 + max([formula.depth for formula in formulas], default=0)
        self._used = keys_used(word, number, formulas)

    @staticmethod
    def key(number):
        """Return the formula that holds for a row if the key with this number is 1."""
        check_between(0, MAX_KEYS - 1, number)
        return made("key", number, ())

    @staticmethod
    def at_least(count, *formulas):
        """Return the formula that holds if at least so many of the formulas hold."""
        check_between(0, MAX_COUNT, count)
        for formula in formulas:
            check_formula(formula)
        return made("at least", count, formulas)

    @staticmethod
    def containing(partial):
        """Return the formula that holds for the rows that contain the partial row."""
        if not is_partial(MAX_KEYS, partial):
            raise InvalidPartial(f"not a partial row of the size {MAX_KEYS}")
        formulas = [Formula.key(key) if bit == 1 else ~Formula.key(key) for key, bit in partial]
        return Formula.at_least(len(partial), *formulas)

    @staticmethod
    def read(text):
        """Return the formula with this text."""
        if not isinstance(text, str):
            raise ParseError("not a string")
        return Reader(text).whole()

    def __invert__(self):
        return made("not", 0, (self,))

    def __and__(self, other):
        return made_of_two("and", self, other)

    def __or__(self, other):
        return made_of_two("or", self, other)

    def __xor__(self, other):
        return made_of_two("xor", self, other)

    def __rshift__(self, other):
        return made_of_two("implies", self, other)

    def __call__(self, row):
        """Return whether the formula holds for the row."""
        if not is_row_of_some_size(row) or not self._fits(len(row)):
            raise InvalidRow("not a row that has all keys of the formula")
        return self._holds(row)

    @property
    def used(self):
        """The ascending tuple of the keys that occur in the formula."""
        return self._used

    @property
    def depth(self):
        """The depth of the formula."""
        return self._depth

    def __len__(self):
        return len(self._parts)

    def __eq__(self, other):
        return isinstance(other, Formula) and self._text == other._text

    def __str__(self):
        return str(self._text)

    def _fits(self, size):
        """Return whether all keys of the formula are keys of the size."""
        return all([key < size for key in self._used])

    def _holds(self, row):
        """Return whether the formula holds for a row that has all its keys."""
        if self._word == "key":
            return row[self._number] == 1
        found = [formula._holds(row) for formula in self._formulas]
        if self._word == "at least":
            return found.count(True) >= self._number
        if self._word == "not":
            return not found[0]
        if self._word == "and":
            return found[0] and found[1]
        if self._word == "or":
            return found[0] or found[1]
        if self._word == "xor":
            return found[0] != found[1]
        return found[1] or not found[0]


class Reader:
    """Reads the text of a formula from left to right."""

    def __init__(self, text):
        self._source = text
        self._at = 0
        self._begun = 0

    def whole(self):
        """Return the formula of which this is the whole text."""
        formula = self._formula(1)
        if self._at != len(self._source):
            raise ParseError("text behind the end of the formula")
        return formula

    def _formula(self, depth):
        """Return the formula whose text begins here, and go behind it."""
        self._begun += 1
        # Stopping here also keeps texts of any length from nesting these calls too deep.
        if self._begun > MAX_PARTS or depth > MAX_DEPTH:
            raise ParseError("too many parts or too deep")
        if self._take("not "):
            return ~self._formula(depth + 1)
        if self._take("("):
            return self._pair(depth)
        if self._take("at least "):
            return self._at_least(depth)
        return self._key()

    def _pair(self, depth):
        """Return the formula of two formulas behind whose bracket the reader is."""
        first = self._formula(depth + 1)
        for word in PAIR_WORDS:
            if self._take(f" {word} "):
                second = self._formula(depth + 1)
                self._need(")")
                return made_of_two(word, first, second)
        raise ParseError("no word between two formulas")

    def _at_least(self, depth):
        """Return the formula with a count before whose count the reader is."""
        count = self._count()
        formulas = []
        if self._take(")"):
            return Formula.at_least(count)
        formulas.append(self._formula(depth + 1))
        while self._take(", "):
            formulas.append(self._formula(depth + 1))
        self._need(")")
        return Formula.at_least(count, *formulas)

    def _count(self):
        """Return the count that stands here, and go behind the bracket that follows it."""
        for count in range(MAX_COUNT + 1):
            if self._take(f"{count} of ("):
                return count
        raise ParseError("no count")

    def _key(self):
        """Return the formula of the key that stands here, and go behind it."""
        for number in range(MAX_KEYS):
            if self._take(f"x{number}"):
                return Formula.key(number)
        raise ParseError("no formula")

    def _take(self, piece):
        """Go behind this piece of text if it stands here, and return whether it does."""
        if not self._source.startswith(piece, self._at):
            return False
        self._at += len(piece)
        return True

    def _need(self, piece):
        """Go behind this piece of text, which must stand here."""
        if not self._take(piece):
            raise ParseError(f"no {piece} where it must be")


def made(word, number, formulas):
    """Return the formula that is made of these formulas, if it is not too large."""
    if 1 + sum([len(formula) for formula in formulas]) > MAX_PARTS:
        raise TooLarge(MAX_PARTS)
    formula = Formula(word, number, formulas)
    if formula.depth > MAX_DEPTH:
        raise TooLarge(MAX_DEPTH)
    return formula


def made_of_two(word, first, second):
    """Return the formula that is made of a formula and a value that must be one."""
    check_formula(second)
    return made(word, 0, (first, second))


def text_of(word, number, formulas):
    """Return the text of the formula that is made of these formulas."""
    texts = [str(formula) for formula in formulas]
    if word == "key":
        return f"x{number}"
    if word == "not":
        return f"not {texts[0]}"
    if word == "at least":
        return f"at least {number} of ({', '.join(texts)})"
    return f"({texts[0]} {word} {texts[1]})"


def keys_used(word, number, formulas):
    """Return the ascending tuple of the keys that occur in the formula."""
    if word == "key":
        return (number,)
    return tuple(sorted({key for formula in formulas for key in formula.used}))


def check_formula(value):
    """Raise the error for a formula that is none."""
    if not isinstance(value, Formula):
        raise InvalidFormula("not a formula")


def check_formula_of(size, value):
    """Raise the error for a formula that is none or has a key that is not below the size."""
    check_formula(value)
    if not value._fits(size):
        raise InvalidFormula(f"a key of the formula is not below {size}")


def rule_of(size, *formulas):
    """Return the rule whose valid rows are those for which all formulas hold."""
    check_size(size)
    for formula in formulas:
        check_formula_of(size, formula)
    return rule_where(size, lambda row: all([each(row) for each in formulas]))


def failing_row(rule, formula):
    """Return the smallest valid row for which the formula does not hold, or None."""
    check_rule(rule)
    size, rows = rule
    check_formula_of(size, formula)
    for row in rows:
        if not formula(row):
            return row
    return None


def holds_in(rule, formula):
    """Return whether the formula holds for all valid rows of the rule."""
    return failing_row(rule, formula) is None
