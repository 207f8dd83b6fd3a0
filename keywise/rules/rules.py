"""Rows, partial rows and rules."""

from keywise.errors import InvalidNumber, InvalidPartial, InvalidRow, InvalidRule

MAX_KEYS = 7


def is_between(least, most, value):
    """Return whether the value is an integer from least to most."""
    # Python counts True and False among the integers, the document does not.
    if isinstance(value, bool) or not isinstance(value, int):
        return False
    return least <= value <= most


def is_size(value):
    """Return whether the value is a size."""
    return is_between(1, MAX_KEYS, value)


def is_pair(value):
    """Return whether the value is a tuple of two values."""
    return isinstance(value, tuple) and len(value) == 2


def is_literal(size, value):
    """Return whether the value is a literal of the size."""
    if not is_pair(value):
        return False
    key, bit = value
    return is_between(0, size - 1, key) and is_between(0, 1, bit)


def are_literals(size, value):
    """Return whether the value is a tuple of literals of the size, in any order and perhaps with repeats."""
    return isinstance(value, tuple) and all([is_literal(size, literal) for literal in value])


def is_row(size, value):
    """Return whether the value is a row of the size."""
    check_size(size)
    if not isinstance(value, tuple) or len(value) != size:
        return False
    return all([is_between(0, 1, bit) for bit in value])


def is_row_of_some_size(value):
    """Return whether the value is a row of any size."""
    return isinstance(value, tuple) and is_size(len(value)) and is_row(len(value), value)


def is_partial(size, value):
    """Return whether the value is a partial row of the size."""
    check_size(size)
    return are_literals(size, value) and ascend([literal[0] for literal in value])


def is_rule(value):
    """Return whether the value is a rule."""
    if not is_pair(value):
        return False
    size, rows = value
    if not is_size(size) or not isinstance(rows, tuple):
        return False
    # Only rows can be compared with one another, so this comes before the order.
    if not all([is_row(size, row) for row in rows]):
        return False
    return ascend(rows) and have_both_bits(size, rows)


def ascend(values):
    """Return whether each of these values is less than the next one."""
    return all([low < high for low, high in zip(values, values[1:])])


def have_both_bits(size, rows):
    """Return whether each key is 0 in one of the rows and 1 in another one."""
    return all([0 < sum([row[key] for row in rows]) < len(rows) for key in range(size)])


def contains(row, partial):
    """Return whether the row contains the partial row."""
    return all([row[key] == bit for key, bit in partial])


def row_number(row):
    """Return the number in which bit k, counted from the lowest one, is the bit of key k."""
    return sum([bit << key for key, bit in enumerate(row)])


def row_with(size, number):
    """Return the row of the size with this number."""
    return tuple([(number >> key) & 1 for key in range(size)])


def check_between(least, most, value):
    """Raise the error for a number that is not an integer from least to most."""
    if not is_between(least, most, value):
        raise InvalidNumber(value)


def check_size(size):
    """Raise the error for a size that is none."""
    check_between(1, MAX_KEYS, size)


def check_key(size, key):
    """Raise the error for a key of the size that is none."""
    check_between(0, size - 1, key)


def check_row(size, row):
    """Raise the error for a row of the size that is none."""
    if not is_row(size, row):
        raise InvalidRow(f"not a row of the size {size}")


def check_partial(size, partial):
    """Raise the error for a partial row of the size that is none."""
    if not is_partial(size, partial):
        raise InvalidPartial(f"not a partial row of the size {size}")


def check_rule(rule):
    """Raise the error for a rule that is none."""
    if not is_rule(rule):
        raise InvalidRule("not a rule")


def all_rows(size):
    """Yield all rows of the size, ascending."""
    check_size(size)
    for number in range(1 << size):
        yield tuple([(number >> (size - 1 - key)) & 1 for key in range(size)])


def rule_with(size, rows):
    """Return the rule with these valid rows, an ascending list of rows of the size."""
    if not have_both_bits(size, rows):
        raise InvalidRule("some key does not have both bits in the rows")
    return (size, tuple(rows))


def make_rule(size, *rows):
    """Return the rule with these valid rows, in any order and perhaps with repeats."""
    check_size(size)
    if not all([is_row(size, row) for row in rows]):
        raise InvalidRow(f"not a row of the size {size}")
    return rule_with(size, sorted(set(rows)))


def rule_where(size, test):
    """Return the rule whose valid rows are those for which the test is true."""
    return rule_with(size, [row for row in all_rows(size) if test(row)])


def is_one_of(size, rows, value):
    """Return whether the value is one of these rows of the size."""
    # (True, 0) equals (1, 0), so being among the rows is not enough.
    return is_row(size, value) and value in rows


def is_valid(rule, value):
    """Return whether the value is a valid row of the rule."""
    check_rule(rule)
    size, rows = rule
    return is_one_of(size, rows, value)


def rows_with(rule, partial):
    """Yield the valid rows that contain the partial row, ascending."""
    check_rule(rule)
    size, rows = rule
    check_partial(size, partial)
    for row in rows:
        if contains(row, partial):
            yield row


def forced(rule, partial):
    """Return the partial row of all literals that the partial row forces in the rule."""
    rows = list(rows_with(rule, partial))
    if not rows:
        raise InvalidPartial("no valid row contains the partial row")
    first = rows[0]
    same = [key for key in range(len(first)) if all([row[key] == first[key] for row in rows])]
    return tuple([(key, first[key]) for key in same])
