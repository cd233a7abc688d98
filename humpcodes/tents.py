"""Tent maps, whose letters tell on which side of a fraction the growth of a code lies."""

from humpcodes.codes import order, require_admissible
from humpcodes.integers import require_count
from humpcodes.ratios import require_above_one
from humpcodes.wrongs import InvalidFraction

LENGTH_LIMIT = 100


def tent_letters(fraction, length):
    """Return the first letters, from 0 to 100, of the tent map of a fraction greater than 1 and not greater than 2."""
    require_above_one(fraction)
    if not has_tent(fraction):
        raise InvalidFraction("a fraction that is not greater than 2 is needed")
    require_count(length, 0, LENGTH_LIMIT)
    return first_letters(fraction, length)


def compare_growth(code, fraction):
    """Return -1 if the growth of the admissible code is less than a fraction greater than 1, otherwise 1."""
    require_admissible(code)
    require_above_one(fraction)
    return growth_side(code, fraction)


def has_tent(fraction):
    """Return True if a fraction greater than 1 is not greater than 2."""
    over, under = fraction
    return over <= 2 * under


def first_letters(fraction, length):
    """Return so many letters of the tent map of a fraction, which need not be in lowest terms."""
    over, under = fraction
    letters = []
    # The point is place / scale; scale is positive.
    place, scale = 1, 1
    for _ in range(length):
        letters.append("L" if place < 0 else "R")
        scale = scale * under
        place = scale - over * abs(place)
    return "".join(letters)


def growth_side(code, fraction):
    """Return -1 or 1 like compare_growth, for a fraction greater than 1 that need not be in lowest terms."""
    # The growth of every code is less than 2.
    if not has_tent(fraction):
        return -1
    return order(code, first_letters(fraction, len(code)))
