"""Arrows between the literals of a rule, and the walks that they make."""

from keywise.errors import InvalidPartial
from keywise.patterns.patterns import patterns
from keywise.rules.rules import are_literals, check_rule, is_literal, is_pair, is_partial


def opposite(literal):
    """Return the literal with the same key and the other bit."""
    key, bit = literal
    return (key, 1 - bit)


def literals_of(size):
    """Return the ascending list of all literals of the size."""
    return [(key, bit) for key in range(size) for bit in (0, 1)]


def check_literals(size, literals):
    """Raise the error for literals of the size of which one is none."""
    if not are_literals(size, literals):
        raise InvalidPartial(f"not a literal of the size {size}")


def shown_arrows(rule):
    """Return a dict from all arrows to the patterns that arrow_pattern returns for them."""
    found = {}
    # The patterns ascend, and sorting keeps this order among those with equally many literals.
    for pattern in sorted(patterns(rule), key=len):
        for first in pattern:
            for other in pattern:
                if first != other:
                    found.setdefault((first, opposite(other)), pattern)
    return found


def arrows(rule):
    """Return the ascending tuple of all arrows of the rule as pairs (from, to)."""
    return tuple(sorted(shown_arrows(rule)))


def arrow_pattern(rule, first, second):
    """Return the first of the patterns with the fewest literals that show this arrow, or None."""
    check_rule(rule)
    check_literals(rule[0], (first, second))
    return shown_arrows(rule).get((first, second))


def leads_of(size, pairs):
    """Return a dict from each literal to the ascending list of those to which one of these arrows leads from it."""
    leads = {literal: [] for literal in literals_of(size)}
    for first, second in sorted(pairs):
        leads[first].append(second)
    return leads


def reach(leads, literals):
    """Return the ascending list of the literals to which walks lead from these, with these themselves."""
    found = {literal: True for literal in literals}
    waiting = list(found)
    while waiting:
        literal = waiting.pop()
        for after in leads[literal]:
            if after not in found:
                found[after] = True
                waiting.append(after)
    return sorted(found)


def reached(rule, *literals):
    """Return, ascending, the literals to which walks lead from these, with these themselves."""
    check_rule(rule)
    check_literals(rule[0], literals)
    return tuple(reach(leads_of(rule[0], shown_arrows(rule)), literals))


def components(rule):
    """Return the tuple of all components in their order, each an ascending tuple of literals."""
    check_rule(rule)
    leads = leads_of(rule[0], shown_arrows(rule))
    after = {literal: reach(leads, [literal]) for literal in leads}
    left = []
    for literal in leads:
        component = tuple([other for other in after[literal] if literal in after[other]])
        if component[0] == literal:
            left.append(component)
    found = []
    while left:
        free = [each for each in left if not any([each[0] in after[other[0]] for other in left if other != each])]
        found.append(free[0])
        left.remove(free[0])
    return tuple(found)


def steps_to(leads, last):
    """Return a dict from the literals from which walks lead to the last one to the fewest arrows of such walks."""
    steps = {last: 0}
    layer = [last]
    many = 0
    while layer:
        many += 1
        before = [literal for literal in leads if any([after in layer for after in leads[literal]])]
        layer = [literal for literal in before if literal not in steps]
        for literal in layer:
            steps[literal] = many
    return steps


def shortest(leads, first, last):
    """Return the smallest list of literals among the walks with the fewest arrows, or None if no walk leads there."""
    steps = steps_to(leads, last)
    if first not in steps:
        return None
    found = [first]
    while found[-1] != last:
        here = found[-1]
        found.append([literal for literal in leads[here] if steps.get(literal) == steps[here] - 1][0])
    return found


def walk_through(rule, stops):
    """Return the walk through these literals in their order, with the fewest arrows between each two, or None."""
    shown = shown_arrows(rule)
    leads = leads_of(rule[0], shown)
    found = [stops[0]]
    for first, last in zip(stops, stops[1:]):
        way = shortest(leads, first, last)
        if way is None:
            return None
        found += way[1:]
    pairs = [(here, shown[(here, after)]) for here, after in zip(found, found[1:])]
    return tuple(pairs + [(found[-1], None)])


def walk(rule, first, second):
    """Return the walk between two literals with the fewest arrows and the smallest literals, or None."""
    check_rule(rule)
    check_literals(rule[0], (first, second))
    return walk_through(rule, (first, second))


def is_walk(rule, value):
    """Return whether the value is a walk of the rule."""
    known = set(patterns(rule))
    size, _ = rule
    if not isinstance(value, tuple) or not value:
        return False
    if not all([is_pair(pair) and is_literal(size, pair[0]) for pair in value]):
        return False
    for (first, pattern), (second, _) in zip(value, value[1:]):
        if not is_partial(size, pattern) or pattern not in known or not shows(pattern, first, second):
            return False
    return value[-1][1] is None


def shows(pattern, first, second):
    """Return whether the pattern shows the arrow between these literals."""
    return first[0] != second[0] and first in pattern and opposite(second) in pattern


def is_closed_walk(rule, value):
    """Return whether the value is a walk of the rule that ends where it begins."""
    return is_walk(rule, value) and value[0][0] == value[-1][0]


def closed_walk(rule):
    """Return a closed walk that passes all literals, or None if there is none."""
    check_rule(rule)
    stops = literals_of(rule[0])
    return walk_through(rule, stops + stops[:1])
