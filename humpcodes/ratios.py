"""Fractions: tuples (a, b) of integers in lowest terms with b from 1 on."""

from math import gcd

from humpcodes.integers import is_whole_number
from humpcodes.wrongs import InvalidFraction


def is_fraction(value):
    """Return True if the value, any value, is a fraction."""
    if not isinstance(value, tuple) or len(value) != 2:
        return False
    if not all([is_whole_number(entry) for entry in value]):
        return False
    over, under = value
    return under >= 1 and gcd(over, under) == 1


def in_lowest_terms(over, under):
    """Return the fraction of two integers; the second one may be negative, but not 0."""
    common = gcd(over, under)
    if under < 0:
        common = -common
    return (over // common, under // common)


def is_above_one(value):
    """Return True if the value, any value, is a fraction greater than 1."""
    return is_fraction(value) and value[0] > value[1]


def require_above_one(value):
    """Raise InvalidFraction unless the value, any value, is a fraction greater than 1."""
    if not is_above_one(value):
        raise InvalidFraction("a fraction greater than 1, in lowest terms, is needed")
