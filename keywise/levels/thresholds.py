"""Threshold policies: a key becomes 1 if enough replicas have 1."""

from keywise.errors import InvalidNumber, InvalidPolicy, TooLarge
from keywise.levels.counting import count_light
from keywise.levels.ratios import fraction
from keywise.patterns.patterns import check_pattern, pattern_rows, patterns
from keywise.policies.policies import MAX_MERGES, Policy, check_odd_replicas, check_replicas, counting_function
from keywise.policies.policies import is_too_many
from keywise.rules.rules import ascend, check_between, check_key, check_partial, check_rule, check_size, is_between
from keywise.rules.rules import is_pair, is_size


class Thresholds(Policy):
    """The policy in which a key becomes 1 if at least so many replicas as its number have 1."""

    def __init__(self, replicas, numbers):
        check_replicas(replicas)
        if not are_numbers(replicas, numbers):
            raise InvalidPolicy(f"not one to seven integers from 1 to {replicas}")
        super().__init__(tuple([threshold_function(replicas, number) for number in numbers]))
        self._numbers = numbers
        self._levels = tuple([fraction(number - 1, replicas - 1) for number in numbers])

    @property
    def numbers(self):
        """The tuple of the numbers of all keys."""
        return self._numbers

    @property
    def levels(self):
        """The tuple of the levels of all keys."""
        return self._levels

    @classmethod
    def majority(cls, size, *, replicas=3):
        """Return the policy for 3 or 5 replicas in which each key becomes what most replicas have."""
        check_size(size)
        check_odd_replicas(replicas)
        return cls(replicas, (replicas // 2 + 1,) * size)

    def load(self, partial):
        """Return the load of a partial row of the size."""
        check_partial(self.size, partial)
        return sum(self._allowances(partial))

    def changed(self, key, number):
        """Return the policy with another number for one key."""
        check_key(self.size, key)
        check_between(1, self.replicas, number)
        return Thresholds(self.replicas, self._numbers[:key] + (number,) + self._numbers[key + 1:])

    def __str__(self):
        return f"thresholds of {self._replicas}: {' '.join([str(number) for number in self._numbers])}"

    def _allowances(self, partial):
        """Return the list of the allowances of the literals of a partial row."""
        return [self.replicas - self._numbers[key] if bit == 1 else self._numbers[key] - 1 for key, bit in partial]

    def _broken_rows(self, rule):
        for pattern in patterns(rule):
            if self.load(pattern) >= self.replicas:
                return self._rows_into(rule, pattern)
        return None

    def _rows_into(self, rule, pattern):
        """Return valid rows that are merged into a row with the pattern, whose load is at least the replicas."""
        found = []
        for row, allowance in zip(pattern_rows(rule, pattern), self._allowances(pattern)):
            found += [row] * allowance
        return tuple(found[:self.replicas])


def are_numbers(replicas, value):
    """Return whether the value is a tuple of one to seven integers from 1 to the number of replicas."""
    if not isinstance(value, tuple) or not is_size(len(value)):
        return False
    return all([is_between(1, replicas, number) for number in value])


def threshold_function(replicas, number):
    """Return the function that returns 1 if at least so many bits are 1."""
    return counting_function(replicas, [1 if many >= number else 0 for many in range(replicas + 1)])


def check_thresholds_of(size, policy):
    """Raise the error for a threshold policy of the size that is none."""
    if not isinstance(policy, Thresholds) or policy.size != size:
        raise InvalidPolicy(f"not a threshold policy of the size {size}")


def are_given(size, replicas, value):
    """Return whether the value is an ascending tuple of pairs (key, number) with different keys."""
    if not isinstance(value, tuple) or not all([is_pair(pair) for pair in value]):
        return False
    for key, number in value:
        if not is_between(0, size - 1, key) or not is_between(1, replicas, number):
            return False
    return ascend([pair[0] for pair in value])


def check_request(rule, replicas, given):
    """Raise the error for the first of these arguments of thresholds that is not as it must be."""
    check_rule(rule)
    check_replicas(replicas)
    if not are_given(rule[0], replicas, given):
        raise InvalidNumber(given)


def with_number(numbers, key, number):
    """Return the list with another number for one key."""
    return numbers[:key] + [number] + numbers[key + 1:]


def narrowed(found, replicas, least, most):
    """Return what is left of these ranges of numbers if no pattern may have the load of the replicas, or None.

    Numbers of the ranges that keep the rule stay in them. One number for each key is left only if these keep it.
    """
    low, high = list(least), list(most)
    before = []
    while before != low + high:
        before = low + high
        for pattern in found:
            loads = [replicas - high[key] if bit == 1 else low[key] - 1 for key, bit in pattern]
            spare = replicas - 1 - sum(loads)
            if spare < 0:
                return None
            for key, bit in pattern:
                if bit == 1:
                    low[key] = max(low[key], high[key] - spare)
                else:
                    high[key] = min(high[key], low[key] + spare)
    return (low, high)


def thresholds(rule, replicas, *, given=()):
    """Yield the numbers of all threshold policies that keep the rule and have the given numbers, ascending."""
    check_request(rule, replicas, given)
    size, _ = rule
    found = patterns(rule)
    fixed = dict(given)
    waiting = [([fixed.get(key, 1) for key in range(size)], [fixed.get(key, replicas) for key in range(size)])]
    while waiting:
        low, high = waiting.pop()
        ranges = narrowed(found, replicas, low, high)
        if ranges is None:
            continue
        low, high = ranges
        free = [key for key in range(size) if low[key] < high[key]]
        if not free:
            yield tuple(low)
            continue
        key = free[0]
        # The last one that is put here is the next one, so the numbers are gone through downwards.
        for number in range(high[key], low[key] - 1, -1):
            waiting.append((with_number(low, key, number), with_number(high, key, number)))


def count_thresholds(rule, replicas, *, given=()):
    """Return how many threshold policies keep the rule and have the given numbers."""
    check_request(rule, replicas, given)
    size, _ = rule
    if is_too_many(replicas, size):
        raise TooLarge(MAX_MERGES)
    return count_light(size, replicas, patterns(rule), given)


def heaviest_pattern(rule, policy):
    """Return the first pattern with the greatest load, and this load, or None if the rule has no pattern."""
    check_rule(rule)
    check_thresholds_of(rule[0], policy)
    found = patterns(rule)
    loads = [policy.load(pattern) for pattern in found]
    return (found[loads.index(max(loads))], max(loads)) if found else None


def merge_into(rule, policy, pattern):
    """Return valid rows that the policy merges into a row that contains the pattern, or None."""
    check_rule(rule)
    check_thresholds_of(rule[0], policy)
    check_pattern(rule, pattern)
    if policy.load(pattern) < policy.replicas:
        return None
    return policy._rows_into(rule, pattern)


def number_range(rule, policy, key):
    """Return the least and the greatest number of the key with which the policy keeps the rule, or None."""
    check_rule(rule)
    check_thresholds_of(rule[0], policy)
    check_key(rule[0], key)
    numbers = list(policy.numbers)
    low, high = with_number(numbers, key, 1), with_number(numbers, key, policy.replicas)
    ranges = narrowed(patterns(rule), policy.replicas, low, high)
    return None if ranges is None else (ranges[0][key], ranges[1][key])
