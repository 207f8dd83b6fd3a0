"""The definitions of the document, followed by trying everything. Nothing of the program is used here."""

from functools import lru_cache
from itertools import product

from tests.support import brute_partials, brute_rows


def contains(row, partial):
    return all(row[key] == bit for key, bit in partial)


def is_contained(rule, partial):
    return any(contains(row, partial) for row in rule[1])


def parts_without(partial):
    return [tuple(literal for literal in partial if literal != left) for left in partial]


@lru_cache(None)
def patterns(rule):
    """The partial rows that no valid row contains, while each proper part is contained in one."""
    forbidden = [partial for partial in brute_partials(rule[0]) if not is_contained(rule, partial)]
    found = [partial for partial in forbidden if all(is_contained(rule, part) for part in parts_without(partial))]
    return tuple(sorted(found))


def opposite(literal):
    return (literal[0], 1 - literal[1])


def literals(size):
    return [(key, bit) for key in range(size) for bit in (0, 1)]


@lru_cache(None)
def arrows(rule):
    """A dict from the arrows to all patterns that show them."""
    found = {}
    for pattern in patterns(rule):
        for first, other in product(pattern, pattern):
            if first[0] != other[0]:
                found.setdefault((first, opposite(other)), []).append(pattern)
    return found


@lru_cache(None)
def distances(rule):
    """A dict from the pairs of literals between which walks lead to the fewest arrows of such walks."""
    found = {(literal, literal): 0 for literal in literals(rule[0])}
    many = 0
    while True:
        many += 1
        ends = [pair for pair, steps in found.items() if steps == many - 1]
        new = {(first, last) for first, here in ends for (here_too, last) in arrows(rule) if here == here_too}
        new = [pair for pair in new if pair not in found]
        if not new:
            return found
        found.update({pair: many for pair in new})


def merge(functions, rows):
    """Merge by the definition: the function's results stand in the ascending order of the tuples of bits."""
    places = list(product((0, 1), repeat=len(rows)))
    return tuple(function[places.index(bits)] for function, bits in zip(functions, zip(*rows)))


def broken(policy, rule):
    """All broken merges of the policy and the rule."""
    places = {bits: at for at, bits in enumerate(product((0, 1), repeat=policy.replicas))}
    valid = set(rule[1])
    functions = policy.functions
    found = []
    for rows in product(rule[1], repeat=policy.replicas):
        if tuple(function[places[bits]] for function, bits in zip(functions, zip(*rows))) not in valid:
            found.append(rows)
    return found


def is_broken_merge(policy, rule, rows):
    """Whether the value is a tuple of valid rows that the policy merges into a row that is not valid."""
    if type(rows) is not tuple or len(rows) != policy.replicas or not all(row in rule[1] for row in rows):
        return False
    return merge(policy.functions, rows) not in rule[1]


@lru_cache(None)
def functions(replicas):
    """All functions for so many replicas."""
    inner = product((0, 1), repeat=2 ** replicas - 2)
    return [(0,) + bits + (1,) for bits in inner]


def is_walk(rule, value):
    """Whether the value is a walk, by the texts of its parts, so that True is not 1."""
    if type(value) is not tuple or not value or any(type(pair) is not tuple or len(pair) != 2 for pair in value):
        return False
    known = {repr(literal): literal for literal in literals(rule[0])}
    path = [known.get(repr(literal)) for literal, _ in value]
    if None in path or value[-1][1] is not None:
        return False
    shown = [[repr(pattern) for pattern in arrows(rule).get(arrow, [])] for arrow in zip(path, path[1:])]
    return all(repr(pattern) in fitting for (_, pattern), fitting in zip(value, shown))


def is_closed_walk(rule, value):
    return is_walk(rule, value) and value[0][0] == value[-1][0]


def ones(row):
    return sum(row)


def all_sides(rule):
    """All sides with which taking the least or the greatest bit for each key keeps the rule, for two replicas."""
    found = []
    for sides in brute_rows(rule[0]):
        merged = [tuple((max if side else min)(bits) for side, bits in zip(sides, zip(first, second)))
                  for first in rule[1] for second in rule[1]]
        if all(row in rule[1] for row in merged):
            found.append(sides)
    return found
