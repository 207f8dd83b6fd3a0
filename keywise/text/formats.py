"""Texts of values, and the values of texts."""

from keywise.choices.arrows import is_walk
from keywise.choices.choices import Choice, literal_words
from keywise.errors import InvalidNumber, InvalidPartial, InvalidPolicy, InvalidRow, ParseError, TooLarge
from keywise.lattice.lattice import SIDE_WORDS, Sides
from keywise.levels.levels import tension
from keywise.levels.ratios import is_fraction
from keywise.levels.thresholds import Thresholds
from keywise.parity.parity import Parity, check_equations, is_equations
from keywise.patterns.patterns import patterns
from keywise.policies.policies import Copy, Table
from keywise.rules.rules import check_partial, check_rule, check_size, is_partial, is_row_of_some_size, is_rule

NONE = "none"
DIGITS = "0123456789"
MAX_DIGITS = 40


def check_text(text):
    """Raise the error for a text that is no string."""
    if not isinstance(text, str):
        raise ParseError("not a string")


def parse_digit(text):
    """Return the digit with this text."""
    if len(text) != 1 or text not in DIGITS:
        raise ParseError("not a digit")
    return int(text)


def parse_integer(text):
    """Return the integer of at most forty digits with this text."""
    digits = text.removeprefix("-")
    if not 0 < len(digits) <= MAX_DIGITS or not all([sign in DIGITS for sign in digits]):
        raise ParseError("not an integer of at most forty digits")
    # Zero is the only one that begins with a zero, and it has no sign.
    if digits.startswith("0") and text != "0":
        raise ParseError("a zero too many")
    return int(text)


def format_row(row):
    """Return the text of a row of any size."""
    if not is_row_of_some_size(row):
        raise InvalidRow("not a row of any size")
    return "".join([str(bit) for bit in row])


def parse_row(text):
    """Return the row with this text."""
    check_text(text)
    row = tuple([parse_digit(sign) for sign in text])
    if not is_row_of_some_size(row):
        raise ParseError("not a row of any size")
    return row


def format_rows(rows):
    """Return the texts of some rows, separated by blanks."""
    return " ".join([format_row(row) for row in rows]) if rows else NONE


def format_rule(rule):
    """Return the text of a rule."""
    check_rule(rule)
    return format_rows(rule[1])


def parse_rule(text):
    """Return the rule with this text."""
    check_text(text)
    rows = tuple([parse_row(word) for word in text.split(" ")])
    if not is_rule((len(rows[0]), rows)):
        raise ParseError("not a rule")
    return (len(rows[0]), rows)


def format_partial(size, partial):
    """Return the text of a partial row of the size."""
    check_partial(size, partial)
    return literal_words(partial)


def parse_literal(text):
    """Return the literal of some size with this text."""
    if len(text) != 3 or text[1] != "=":
        raise ParseError("not a literal")
    return (parse_digit(text[0]), parse_digit(text[2]))


def parse_literals(text):
    """Return a tuple of the literals with this text, which may be `none`."""
    return () if text == NONE else tuple([parse_literal(word) for word in text.split(" ")])


def parse_partial(size, text):
    """Return the partial row of the size with this text."""
    check_size(size)
    check_text(text)
    partial = parse_literals(text)
    if not is_partial(size, partial):
        raise ParseError(f"not a partial row of the size {size}")
    return partial


def format_equations(size, equations):
    """Return the text of equations of the size."""
    check_equations(size, equations)
    words = ["+".join([str(key) for key in keys]) + f"={bit}" for keys, bit in equations]
    return ", ".join(words) if words else NONE


def parse_equation(text):
    """Return the equation of some size with this text."""
    keys, _, bit = text.partition("=")
    return (tuple([parse_digit(key) for key in keys.split("+")]), parse_digit(bit))


def parse_equations(size, text):
    """Return the equations of the size with this text."""
    check_size(size)
    check_text(text)
    equations = () if text == NONE else tuple([parse_equation(part) for part in text.split(", ")])
    if not is_equations(size, equations):
        raise ParseError(f"not equations of the size {size}")
    return equations


def format_fraction(fraction):
    """Return the text of a fraction."""
    if not is_fraction(fraction):
        raise InvalidNumber(fraction)
    above, below = fraction
    if max(abs(above), below) >= 10 ** 40:
        raise TooLarge(MAX_DIGITS)
    return str(above) if below == 1 else f"{above}/{below}"


def parse_fraction(text):
    """Return the fraction with this text."""
    check_text(text)
    above, line, below = text.partition("/")
    fraction = (parse_integer(above), parse_integer(below) if line else 1)
    if not is_fraction(fraction) or (line and fraction[1] == 1):
        raise ParseError("not a fraction in lowest terms")
    return fraction


def format_walk(rule, walk):
    """Return the text of a walk of the rule."""
    if not is_walk(rule, walk):
        raise InvalidPartial("not a walk of the rule")
    return " -> ".join([literal_words((literal,)) for literal, _ in walk])


def parse_words(many, text):
    """Return the list of the words of the text, which must be so many."""
    words = text.split(" ")
    if len(words) != many:
        raise ParseError(f"not {many} words")
    return words


def parse_table(text):
    """Return the table whose text is the word for it, a blank and this. The same holds for the others below."""
    return Table(tuple([tuple([parse_digit(sign) for sign in word]) for word in text.split(" ")]))


def parse_copy(text):
    """Return the copy of a replica with this text."""
    words = parse_words(6, text)
    return Copy(parse_digit(words[2]), parse_digit(words[4]), parse_digit(words[0]))


def parse_choice(text):
    """Return the choice with this text."""
    begun, _, wins = text.partition(": ")
    return Choice(parse_digit(parse_words(3, begun)[1]), parse_literals(wins))


def parse_thresholds(text):
    """Return the threshold policy with this text."""
    begun, _, numbers = text.partition(": ")
    return Thresholds(parse_digit(begun[3:]), tuple([parse_digit(number) for number in numbers.split(" ")]))


def parse_side(text):
    """Return the side with this word."""
    if text not in SIDE_WORDS:
        raise ParseError("not a side")
    return SIDE_WORDS.index(text)


def parse_sides(text):
    """Return the policy of sides with this text."""
    begun, _, sides = text.partition(": ")
    return Sides(parse_digit(begun[3:]), tuple([parse_side(word) for word in sides.split(" ")]))


def parse_parity(text):
    """Return the parity with this text."""
    words = parse_words(5, text)
    return Parity(parse_digit(words[1]), parse_digit(words[3]))


POLICY_PARSERS = {
    "table": parse_table,
    "copy": parse_copy,
    "choice": parse_choice,
    "thresholds": parse_thresholds,
    "sides": parse_sides,
    "parity": parse_parity,
}


def parse_policy(text):
    """Return the policy with this text."""
    check_text(text)
    word, _, told = text.partition(" ")
    if word not in POLICY_PARSERS:
        raise ParseError("no class of policies begins so")
    parse = POLICY_PARSERS[word]
    try:
        policy = parse(told)
    except (InvalidNumber, InvalidPolicy):
        raise ParseError("the class refuses what the text has") from None
    # What the functions above pass over in the text is told by the policy itself.
    if str(policy) != text:
        raise ParseError("not the text of a policy")
    return policy


def pattern_table(rule):
    """Return a table of the patterns of the rule, with the tension in the last line."""
    lines = [f"{at:>3}{len(pattern):>2}  {literal_words(pattern)}" for at, pattern in enumerate(patterns(rule))]
    return "\n".join(lines + [f"tension {format_fraction(tension(rule))}"])
