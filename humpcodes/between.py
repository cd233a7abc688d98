"""Neighbours, and the shortest code between two codes."""

from humpcodes.codes import LIMIT, order, require_admissible
from humpcodes.errors import Neighbours, SameCode, TooLong
from humpcodes.listing import continued
from humpcodes.products import joined


def are_neighbours(first, second):
    """Return True if no admissible code is between the two admissible codes and they differ."""
    require_admissible(first)
    require_admissible(second)
    return joined(first, "RC") == second or joined(second, "RC") == first


def shortest_between(first, second):
    """Return the shortest admissible code between two admissible codes."""
    require_admissible(first)
    require_admissible(second)
    if first == second:
        raise SameCode("the codes are equal")
    if are_neighbours(first, second):
        raise Neighbours("no admissible code is between the codes")
    if order(first, second) < 0:
        return _shortest_inside(first, second)
    return _shortest_inside(second, first)


def _shortest_inside(low, high):
    """Return the shortest admissible code that is greater than low and less than high."""
    # There are never many beginnings: where two of them part, the letters that
    # they share, followed by C, are an admissible code.
    starts = [""]
    for _ in range(LIMIT):
        longer = [row for start in starts for row in continued(start) if _is_inside(row, low, high)]
        for row in longer:
            if row.endswith("C") and row not in (low, high):
                return row
        starts = [row for row in longer if not row.endswith("C")]
    raise TooLong("the shortest code between has more than 40 characters")


def _is_inside(row, low, high):
    """Return True if the row, a beginning or a code, is not less than low and not greater than high."""
    return order(low, row) <= 0 and order(row, high) <= 0
