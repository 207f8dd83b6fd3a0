"""The patterns of a rule: the least partial rows that no valid row contains."""

from keywise.errors import InvalidPartial
from keywise.rules.rules import all_rows, check_partial, check_rule, check_size, contains, is_one_of, is_pair
from keywise.rules.rules import is_partial, row_number, rule_where


def shadows(size, rows):
    """Return, for each set of keys as a number, a dict of the numbers that are left of the rows at these keys."""
    full = (1 << size) - 1
    found = [{} for _ in range(full + 1)]
    found[full] = {row_number(row): True for row in rows}
    for keys in range(full - 1, -1, -1):
        # One key more makes a greater number, so what is left at that set of keys is already known.
        more = keys | (keys + 1)
        found[keys] = {number & keys: True for number in found[more]}
    return found


def partial_of(size, keys, number):
    """Return the partial row that has the bits of the number at this set of keys."""
    return tuple([(key, (number >> key) & 1) for key in range(size) if (keys >> key) & 1])


def patterns(rule):
    """Return the ascending tuple of all patterns of the rule."""
    check_rule(rule)
    size, rows = rule
    left = shadows(size, rows)
    found = []
    for keys in range(1, 1 << size):
        ones = [1 << key for key in range(size) if (keys >> key) & 1]
        for part in left[keys ^ ones[-1]]:
            for number in (part, part | ones[-1]):
                if number not in left[keys] and all([number & ~one in left[keys ^ one] for one in ones]):
                    found.append(partial_of(size, keys, number))
    return tuple(sorted(found))


def parts_without_one(partial):
    """Return, for each literal of the partial row, the part that has all others."""
    return [partial[:at] + partial[at + 1:] for at in range(len(partial))]


def first_with(rows, partial):
    """Return the first of the rows that contains the partial row, or None."""
    for row in rows:
        if contains(row, partial):
            return row
    return None


def is_pattern(rule, value):
    """Return whether the value is a pattern of the rule."""
    check_rule(rule)
    size, rows = rule
    if not is_partial(size, value) or first_with(rows, value) is not None:
        return False
    return all([first_with(rows, part) is not None for part in parts_without_one(value)])


def check_pattern(rule, pattern):
    """Raise the error for a rule that is none, or for a pattern of the rule that is none."""
    if not is_pattern(rule, pattern):
        raise InvalidPartial("not a pattern of the rule")


def pattern_within(rule, partial):
    """Return the first pattern with the fewest literals that is a part of the partial row, or None."""
    check_rule(rule)
    check_partial(rule[0], partial)
    parts = [pattern for pattern in patterns(rule) if all([literal in partial for literal in pattern])]
    # The patterns ascend, so the first one of the shortest ones is the smallest one.
    return min(parts, key=len, default=None)


def pattern_rows(rule, pattern):
    """Return, for each literal of the pattern, the smallest valid row that contains all other literals of it."""
    check_pattern(rule, pattern)
    return tuple([first_with(rule[1], part) for part in parts_without_one(pattern)])


def is_pattern_paper(rule, value):
    """Return whether the value is a pattern with valid rows that show that it is one."""
    check_rule(rule)
    size, rows = rule
    if not is_pair(value):
        return False
    partial, shown = value
    if not is_partial(size, partial) or first_with(rows, partial) is not None:
        return False
    if not isinstance(shown, tuple) or not all([is_one_of(size, rows, row) for row in shown]):
        return False
    if len(shown) != len(partial):
        return False
    return all([contains(row, part) for row, part in zip(shown, parts_without_one(partial))])


def check_partials(size, partials):
    """Raise the error for a tuple of partial rows of the size that is none."""
    if not isinstance(partials, tuple) or not all([is_partial(size, partial) for partial in partials]):
        raise InvalidPartial(f"not a tuple of partial rows of the size {size}")


def contains_none(row, partials):
    """Return whether the row contains none of the partial rows."""
    return not any([contains(row, partial) for partial in partials])


def rule_of_patterns(size, partials):
    """Return the rule whose valid rows contain none of the partial rows."""
    check_size(size)
    check_partials(size, partials)
    return rule_where(size, lambda row: contains_none(row, partials))


def gives(rule, partials):
    """Return whether the valid rows are exactly the rows that contain none of the partial rows."""
    check_rule(rule)
    size, rows = rule
    check_partials(size, partials)
    return rows == tuple([row for row in all_rows(size) if contains_none(row, partials)])
