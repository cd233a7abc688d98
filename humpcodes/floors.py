"""Digits of growths, and fractions and codes that lie beside growths."""

from humpcodes.codes import require_admissible
from humpcodes.integers import require_size
from humpcodes.kinds import compare_growths
from humpcodes.listing import codes_up_to
from humpcodes.ratios import require_above_one
from humpcodes.tents import growth_side
from humpcodes.wrongs import SameGrowth

SIZE_LIMIT = 1000000000000


def growth_floor(code, size):
    """Return the floor of the growth of an admissible code for a size from 1 to 10 ** 12."""
    require_admissible(code)
    require_size(size, 1, SIZE_LIMIT)
    # The growth is at least 1 and less than 2.
    low, high = size, 2 * size
    while high - low > 1:
        middle = (low + high) // 2
        if growth_side(code, (middle, size)) > 0:
            low = middle
        else:
            high = middle
    return low


def simplest_fraction(first, second):
    """Return the simplest fraction between the unlike growths of two admissible codes."""
    side = compare_growths(first, second)
    if side == 0:
        raise SameGrowth("the growths of the codes are the same")
    return _simplest_inside(first, second) if side < 0 else _simplest_inside(second, first)


def codes_beside(fraction, period):
    """Return the codes of at most the period whose growths are next to a fraction greater than 1 on both sides.

    The first one is the greatest code of less growth, the second one the least
    code of greater growth, or None if there is none.
    """
    require_above_one(fraction)
    # The code C, of growth 1, is always among the first ones.
    below, above = "C", None
    for code in codes_up_to(period):
        if growth_side(code, fraction) > 0:
            above = code
            break
        below = code
    return below, above


def _simplest_inside(low, high):
    """Return the simplest fraction greater than the growth of the code low and less than that of the code high."""
    below, above = (1, 1), (2, 1)
    while True:
        middle = _added(below, above, 1)
        side = _side_of(middle, low, high)
        if side == 0:
            return middle
        if side < 0:
            below = _added(below, above, _most_times(below, above, low, high))
        else:
            above = _added(above, below, _most_times(above, below, low, high))


def _most_times(fraction, other, low, high):
    """Return how many times the other fraction can be added without a change of the side after the first time."""
    side = _side_of(_added(fraction, other, 1), low, high)
    # The number may be huge, so it is doubled until it is too great, then the gap is halved.
    times = 1
    while _side_of(_added(fraction, other, 2 * times), low, high) == side:
        times = 2 * times
    beyond = 2 * times
    while beyond - times > 1:
        middle = (times + beyond) // 2
        if _side_of(_added(fraction, other, middle), low, high) == side:
            times = middle
        else:
            beyond = middle
    return times


def _added(fraction, other, times):
    """Return the entries of the first fraction after those of the other one have been added so many times."""
    return (fraction[0] + times * other[0], fraction[1] + times * other[1])


def _side_of(fraction, low, high):
    """Return -1 or 1 if the fraction is less or greater than the growths of both codes, 0 if it is between them."""
    if growth_side(low, fraction) > 0:
        return -1
    return 1 if growth_side(high, fraction) < 0 else 0
