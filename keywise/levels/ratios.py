"""Fractions, as pairs of integers in lowest terms."""

from math import gcd

from keywise.rules.rules import is_pair


def is_integer(value):
    """Return whether the value is an integer other than True and False."""
    return isinstance(value, int) and not isinstance(value, bool)


def is_fraction(value):
    """Return whether the value is a fraction."""
    if not is_pair(value):
        return False
    above, below = value
    return is_integer(above) and is_integer(below) and below >= 1 and gcd(above, below) == 1


def fraction(above, below):
    """Return the fraction above / below, where below is at least 1."""
    shared = gcd(above, below)
    return (above // shared, below // shared)
