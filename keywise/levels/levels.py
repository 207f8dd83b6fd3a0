"""Levels, the tension of a rule, and orders of its literals."""

from keywise.choices.arrows import arrows, is_closed_walk, leads_of, literals_of, opposite, reach, walk_through
from keywise.errors import InvalidLevels, InvalidPartial
from keywise.levels.ratios import fraction, is_fraction, is_integer
from keywise.levels.simplex import best_weights
from keywise.levels.thresholds import thresholds
from keywise.patterns.patterns import patterns
from keywise.policies.policies import check_replicas
from keywise.rules.rules import are_literals, ascend, check_partial, check_rule, check_size, is_pair, is_partial
from keywise.rules.rules import is_size


def is_levels(size, value):
    """Return whether the value is levels of the size."""
    check_size(size)
    if not isinstance(value, tuple) or len(value) != size:
        return False
    return all([is_fraction(level) and 0 <= level[0] <= level[1] for level in value])


def check_levels(levels):
    """Raise the error for levels that are levels of no size."""
    if not isinstance(levels, tuple) or not is_size(len(levels)) or not is_levels(len(levels), levels):
        raise InvalidLevels("not levels of any size")


def falsities(levels):
    """Return a dict from the literals to their falsities times a number, and this number."""
    shared = 1
    for _, below in levels:
        shared *= below
    found = {}
    for key, (above, below) in enumerate(levels):
        found[(key, 0)] = above * (shared // below)
        found[(key, 1)] = shared - found[(key, 0)]
    return found, shared


def falsity_sum(levels, partial):
    """Return the falsity sum of the partial row as a fraction."""
    check_levels(levels)
    check_partial(len(levels), partial)
    falsity, shared = falsities(levels)
    return fraction(sum([falsity[literal] for literal in partial]), shared)


def numbers_for(levels, replicas):
    """Return the numbers of the thresholds for so many replicas that have these levels, or None."""
    check_levels(levels)
    check_replicas(replicas)
    if any([above * (replicas - 1) % below > 0 for above, below in levels]):
        return None
    return tuple([above * (replicas - 1) // below + 1 for above, below in levels])


def tension(rule):
    """Return the tension of the rule as a fraction."""
    return tension_paper(rule)[0]


def tension_paper(rule):
    """Return the tension of the rule, levels for which no falsity sum is greater, and weights that show it."""
    found = patterns(rule)
    size, _ = rule
    number, weights, levels, scale = best_weights(size, found)
    shown = [(pattern, weight) for pattern, weight in zip(found, weights) if weight > 0]
    # Weights are not empty, and those of one pattern show 0.
    if not shown:
        shown = [(pattern, 1) for pattern in found[:1]]
    return (fraction(number, scale), tuple([fraction(level, scale) for level in levels]), tuple(shown))


def are_weights(rule, value):
    """Return whether the value is weights of the rule."""
    known = patterns(rule)
    size, _ = rule
    if not isinstance(value, tuple) or not all([is_pair(pair) and is_integer(pair[1]) for pair in value]):
        return False
    if not all([is_partial(size, pattern) and pattern in known and number >= 1 for pattern, number in value]):
        return False
    return ascend([pattern for pattern, _ in value]) and (len(value) > 0 or not known)


def number_shown(size, weights):
    """Return the number that the weights show."""
    heavy = {literal: 0 for literal in literals_of(size)}
    for pattern, number in weights:
        for literal in pattern:
            heavy[literal] += number
    smaller = sum([min(heavy[(key, 0)], heavy[(key, 1)]) for key in range(size)])
    return fraction(smaller, sum([number for _, number in weights])) if weights else (0, 1)


def is_tension_paper(rule, value):
    """Return whether the value is the tension with levels and weights that show it."""
    check_rule(rule)
    if not isinstance(value, tuple) or len(value) != 3:
        return False
    number, levels, weights = value
    if not is_fraction(number) or not is_levels(rule[0], levels) or not are_weights(rule, weights):
        return False
    above, below = worst_patterns(rule, levels)[0]
    return above * number[1] <= number[0] * below and number_shown(rule[0], weights) == number


def worst_patterns(rule, levels):
    """Return the greatest falsity sum of a pattern, and the ascending tuple of the patterns that have it."""
    check_rule(rule)
    if not is_levels(rule[0], levels):
        raise InvalidLevels("not levels of the size of the rule")
    falsity, shared = falsities(levels)
    sums = [(sum([falsity[literal] for literal in pattern]), pattern) for pattern in patterns(rule)]
    worst = max([total for total, _ in sums], default=0)
    return (fraction(worst, shared), tuple([pattern for total, pattern in sums if total == worst]))


def least_replicas(rule):
    """Return the least number of replicas for which thresholds keep the rule, or None."""
    check_rule(rule)
    for replicas in (2, 3):
        for _ in thresholds(rule, replicas):
            return replicas
    return None


def order_of(rule):
    """Return an order of the rule, or None."""
    pairs = arrows(rule)
    left = literals_of(rule[0])
    found = []
    while left:
        led = [second for first, second in pairs if first in left]
        free = [literal for literal in left if literal not in led]
        if not free:
            return None
        # Nothing leads to this literal any more, so nothing leads from its opposite, which is the last one then.
        found.append(free[0])
        left = [literal for literal in left if literal not in (free[0], opposite(free[0]))]
    return tuple(found)


def cycle_of(rule):
    """Return a walk with at least one arrow that ends where it begins, or None."""
    pairs = arrows(rule)
    leads = leads_of(rule[0], pairs)
    for first, second in pairs:
        if first in reach(leads, [second]):
            return walk_through(rule, (first, second, first))
    return None


def order_paper(rule):
    """Return an order of the rule, or a cycle if it has none, with the word for what it is."""
    order = order_of(rule)
    return ("cycle", cycle_of(rule)) if order is None else ("order", order)


def is_order_paper(rule, value):
    """Return whether the value is an order or a cycle of the rule with the word for what it is."""
    check_rule(rule)
    if not is_pair(value):
        return False
    word, shown = value
    if word == "order":
        return has_each_key(rule[0], shown) and is_in_order(arrows(rule), shown)
    return word == "cycle" and is_closed_walk(rule, shown) and len(shown) > 1


def has_each_key(size, value):
    """Return whether the value is a tuple of literals, one for each key of the size."""
    if not are_literals(size, value):
        return False
    return sorted([key for key, _ in value]) == list(range(size))


def is_in_order(pairs, order):
    """Return whether each of the arrows leads from an earlier to a later literal in the sequence of the order."""
    sequence = list(order) + [opposite(literal) for literal in order[::-1]]
    return all([sequence.index(first) < sequence.index(second) for first, second in pairs])


def order_levels(order):
    """Return the levels in which the literal with the number m of k has the falsity 3 ** (m - 1) / 3 ** k."""
    if not isinstance(order, tuple) or not is_size(len(order)) or not has_each_key(len(order), order):
        raise InvalidPartial("not a tuple with one literal for each key of a size")
    found = {}
    below = 1
    for key, bit in order[::-1]:
        below *= 3
        found[key] = (below - 1, below) if bit == 1 else (1, below)
    return tuple([found[key] for key in range(len(order))])
