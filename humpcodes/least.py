"""Least and greatest codes of a period, and the order of the periods."""

from humpcodes.codes import LIMIT, order, require_admissible
from humpcodes.integers import require_period
from humpcodes.products import joined


def least_code(period):
    """Return the least admissible code of the period."""
    require_period(period, LIMIT)
    if period == 1:
        return "C"
    if period % 2 == 0:
        return joined("RC", least_code(period // 2))
    return "RL" + "R" * (period - 3) + "C"


def greatest_code(period):
    """Return the greatest admissible code of the period."""
    require_period(period, LIMIT)
    if period == 1:
        return "C"
    return "R" + "L" * (period - 2) + "C"


def precedes(first, second):
    """Return True if the first integer precedes the second one in the order of the periods."""
    require_period(first)
    require_period(second)
    twos, odd = _split(first)
    other_twos, other_odd = _split(second)
    if odd == 1 and other_odd == 1:
        return twos > other_twos
    if odd == 1 or other_odd == 1:
        return odd > 1
    return (twos, odd) < (other_twos, other_odd)


def first_period(code):
    """Return the first period of an admissible code."""
    require_admissible(code)
    first = 1
    # No period that comes first is longer than the code: an odd one tells at
    # which letter the code leaves RLRRR..; without one, the code is C or the
    # product of RC and a code of half its period.
    for period in range(2, len(code) + 1):
        if precedes(period, first) and order(least_code(period), code) <= 0:
            first = period
    return first


def has_period(code, period):
    """Return True if the period is the first period of the admissible code or preceded by it."""
    require_admissible(code)
    require_period(period)
    first = first_period(code)
    return period == first or precedes(first, period)


def _split(number):
    """Return the exponent of two and the odd number of which the number is the product."""
    # Shifting once, not bit by bit, keeps huge integers quick.
    twos = (number & -number).bit_length() - 1
    return twos, number >> twos
