"""Forced codes, their two words, and points of given least periods."""

from humpcodes.codes import LIMIT, is_odd, order, require_admissible
from humpcodes.errors import NotForced
from humpcodes.integers import require_period
from humpcodes.least import first_period, least_code, precedes
from humpcodes.words import point_of_word

PERIODS_LIMIT = 1000


def forces(first, second):
    """Return True if the second admissible code is not greater than the first one."""
    require_admissible(first)
    require_admissible(second)
    return order(second, first) <= 0


def words_of(code):
    """Return the even word and the odd word of an admissible code."""
    require_admissible(code)
    start = code[:-1]
    if is_odd(start):
        return start + "R", start + "L"
    return start + "L", start + "R"


def points_of_code(code, other):
    """Return the points of the even and of the odd word of the other code in the stroke map of code."""
    require_admissible(code)
    require_admissible(other)
    if order(other, code) >= 0:
        raise NotForced("the other code is not less than the code")
    even, odd = words_of(other)
    return point_of_word(code, even), point_of_word(code, odd)


def point_of_period(code, period):
    """Return a point of the least period, from 1 to 40, in the stroke map of the code, or None."""
    require_admissible(code)
    require_period(period, LIMIT)
    least = least_code(period)
    side = order(least, code)
    if side > 0:
        return None
    if side == 0:
        return (len(code) - 1, 1)
    return point_of_word(code, words_of(least)[1])


def periods_up_to(code, period):
    """Return the least periods in the stroke map of the code, up to the given one, from 1 to 1000."""
    require_admissible(code)
    require_period(period, PERIODS_LIMIT)
    first = first_period(code)
    return [number for number in range(1, period + 1) if number == first or precedes(first, number)]
