"""Changed rules, and the policies that keep them."""

from keywise.errors import InvalidNumber, InvalidOperation, InvalidRule, TooLarge
from keywise.patterns.patterns import patterns
from keywise.policies.policies import Table, are_different_keys, check_policy
from keywise.rules.rules import MAX_KEYS, check_between, check_key, check_rule


def rows_at(keys, rows):
    """Return the ascending tuple of what the rows have at these keys, in the order of the keys."""
    return tuple(sorted(set([tuple([row[key] for key in keys]) for row in rows])))


def kept(size, rows, left_out):
    """Return the new rule for the rows that are kept, the old keys that are left, and the dict of the constants.

    The keys that are to be left out are so even if they are not constant.
    """
    if not rows:
        raise InvalidOperation("no row is kept")
    constants = {key: rows[0][key] for key in range(size) if all([row[key] == rows[0][key] for row in rows])}
    keys = tuple([key for key in range(size) if key not in constants and key not in left_out])
    if not keys:
        raise InvalidOperation("no key is left")
    return ((len(keys), rows_at(keys, rows)), keys, constants)


def fixed(rule, key, bit):
    """Return what is left of the rule if the key has this bit, with the keys that are left and the constants."""
    check_rule(rule)
    size, rows = rule
    check_key(size, key)
    check_between(0, 1, bit)
    return kept(size, [row for row in rows if row[key] == bit], ())


def joined(rule, first, second):
    """Return what is left of the rule if two keys have the same bit, with the keys that are left and the constants."""
    check_rule(rule)
    size, rows = rule
    check_key(size, first)
    check_key(size, second)
    if first == second:
        raise InvalidNumber(second)
    return kept(size, [row for row in rows if row[first] == row[second]], (second,))


def both(first, second):
    """Return what is valid in both rules, with the keys that are left and the constants."""
    check_rule(first)
    check_rule(second)
    if first[0] != second[0]:
        raise InvalidRule("the rules have different sizes")
    return kept(first[0], [row for row in first[1] if row in second[1]], ())


def check_keys(size, keys):
    """Raise the error for keys of the size of which one is none, or one is passed twice."""
    for key in keys:
        check_key(size, key)
    if len(set(keys)) < len(keys):
        raise InvalidOperation("a key is passed twice")


def hidden(rule, *keys):
    """Return the rule without these keys."""
    check_rule(rule)
    size, rows = rule
    check_keys(size, keys)
    if len(keys) == size:
        raise InvalidOperation("no key is left")
    left = [key for key in range(size) if key not in keys]
    return (len(left), rows_at(left, rows))


def turned(rule, *keys):
    """Return the rule with 0 and 1 exchanged in these keys."""
    check_rule(rule)
    size, rows = rule
    check_keys(size, keys)
    return (size, tuple(sorted([turned_row(row, keys) for row in rows])))


def turned_row(row, keys):
    """Return the row with 0 and 1 exchanged in these keys."""
    return tuple([1 - bit if key in keys else bit for key, bit in enumerate(row)])


def rearranged(rule, keys):
    """Return the rule in which key k is the old key `keys[k]`."""
    check_rule(rule)
    size, rows = rule
    if not are_different_keys(size, keys) or len(keys) != size:
        raise InvalidOperation("not a tuple with each key exactly once")
    return (size, rows_at(keys, rows))


def check_fits(size):
    """Raise the error for so many keys that they are too many."""
    if size > MAX_KEYS:
        raise TooLarge(MAX_KEYS)


def beside(first, second):
    """Return the rule whose valid rows are those of the first rule followed by those of the second one."""
    check_rule(first)
    check_rule(second)
    check_fits(first[0] + second[0])
    return (first[0] + second[0], tuple([row + other for row in first[1] for other in second[1]]))


def turned_policy(policy, *keys):
    """Return the Table of the policy with 0 and 1 exchanged in these keys."""
    check_policy(policy)
    check_keys(policy.size, keys)
    found = list(policy.functions)
    for key in keys:
        found[key] = turned_function(found[key])
    return Table(tuple(found))


def turned_function(function):
    """Return the function with 0 and 1 exchanged in its bits and in its results."""
    # Where the bits are exchanged in all places, the ascending order is gone through downwards.
    return tuple([1 - bit for bit in function[::-1]])


def beside_policy(first, second):
    """Return the Table with the functions of the first policy and then those of the second one."""
    check_policy(first)
    check_policy(second)
    if first.replicas != second.replicas:
        raise InvalidOperation("the policies are for different numbers of replicas")
    check_fits(first.size + second.size)
    return Table(first.functions + second.functions)


def groups(rule):
    """Return the groups of the keys, each as an ascending tuple, in ascending order."""
    check_rule(rule)
    found = [(key,) for key in range(rule[0])]
    for pattern in patterns(rule):
        touched = [group for group in found if any([key in group for key, _ in pattern])]
        together = tuple(sorted([key for group in touched for key in group]))
        found = [group for group in found if group not in touched] + [together]
    return tuple(sorted(found))
