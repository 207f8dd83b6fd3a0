"""Sides: minimum or maximum for each key."""

from keywise.choices.arrows import arrows, is_closed_walk, leads_of, opposite, reach, walk_through
from keywise.choices.choices import check_pair_policy, is_closed
from keywise.errors import InvalidPolicy, InvalidRow
from keywise.patterns.patterns import pattern_rows, patterns
from keywise.policies.policies import Policy, are_bits, are_rows, check_replicas, counting_function
from keywise.rules.rules import all_rows, check_rule, is_pair, is_row, is_size

SIDE_WORDS = ("min", "max")


class Sides(Policy):
    """The policy that takes the least or the greatest bit of each key."""

    def __init__(self, replicas, sides):
        check_replicas(replicas)
        if not isinstance(sides, tuple) or not is_size(len(sides)) or not are_bits(len(sides), sides):
            raise InvalidPolicy("not a tuple of one to seven bits")
        super().__init__(tuple([side_function(replicas, side) for side in sides]))
        self._sides = sides

    @property
    def sides(self):
        """The tuple of the sides of all keys."""
        return self._sides

    def __str__(self):
        return f"sides of {self._replicas}: {' '.join([SIDE_WORDS[side] for side in self._sides])}"

    def _broken_rows(self, rule):
        for pattern in patterns(rule):
            taken = [at for at, (key, bit) in enumerate(pattern) if self._sides[key] == bit]
            if len(taken) > 1:
                shown = pattern_rows(rule, pattern)
                # Only the first row lacks the one of two literals, and only the other ones lack the other one.
                return (shown[taken[0]],) + (shown[taken[1]],) * (self.replicas - 1)
        return None


def side_function(replicas, side):
    """Return the function that takes the least bit for the side 0, and the greatest one for the side 1."""
    return counting_function(replicas, [0] + [side] * (replicas - 1) + [1])


def literals_on(sides):
    """Return the ascending list of the literals (key, side)."""
    return list(enumerate(sides))


def sides_paper(rule):
    """Return sides whose policy keeps the rule, or a walk if there are none, with the word for what it is."""
    check_rule(rule)
    for sides in all_sides(rule):
        return ("sides", sides)
    leads = leads_of(rule[0], arrows(rule))
    there = [literal for literal in leads if opposite(literal) in reach(leads, [literal])]
    turning = [literal for literal in there if opposite(literal) in there]
    return ("walk", walk_through(rule, (turning[0], opposite(turning[0]), turning[0])))


def is_sides_paper(rule, value):
    """Return whether the value is sides or a walk that shows that there are none, with the word for what it is."""
    check_rule(rule)
    if not is_pair(value):
        return False
    word, shown = value
    if word == "sides":
        return is_row(rule[0], shown) and is_closed(arrows(rule), literals_on(shown))
    if word != "walk" or not is_closed_walk(rule, shown):
        return False
    passed = {literal: True for literal, _ in shown}
    return any([opposite(literal) in passed for literal in passed])


def all_sides(rule):
    """Yield all sides whose policy keeps the rule, ascending."""
    check_rule(rule)
    size, _ = rule
    pairs = arrows(rule)
    for sides in all_rows(size):
        if is_closed(pairs, literals_on(sides)):
            yield sides


def count_sides(rule):
    """Return the number of the sides whose policy keeps the rule."""
    return len(list(all_sides(rule)))


def forced_sides(rule):
    """Return the dict from the keys that have one side in all sides that keep the rule to it, or None."""
    found = list(all_sides(rule))
    if not found:
        return None
    first = found[0]
    return {key: first[key] for key in range(len(first)) if all([sides[key] == first[key] for sides in found])}


def fold(policy, rows):
    """Return what comes of merging the first two of the rows, then the result with the third one, and so on."""
    check_pair_policy(policy)
    if not are_rows(policy.size, rows) or not rows:
        raise InvalidRow(f"not a tuple of one or more rows of the size {policy.size}")
    found = rows[0]
    for row in rows[1:]:
        found = policy._merge((found, row))
    return found
