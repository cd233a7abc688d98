"""Weights that tell on which side of a fraction the growth of a code lies."""

from humpcodes.codes import require_admissible
from humpcodes.orbits import ascending_points
from humpcodes.ratios import require_above_one


def upper_weights(code, fraction):
    """Return upper weights of the admissible code for a fraction greater than 1, or None."""
    heights, top = _heights_for(code, fraction)
    return _weights(code, heights) if heights[0] < top else None


def lower_weights(code, fraction):
    """Return lower weights of the admissible code for a fraction greater than 1, or None."""
    heights, top = _heights_for(code, fraction)
    return _weights(code, heights) if heights[0] == top else None


def _heights_for(code, fraction):
    """Return the numbers y of the points in point 27 and 1, all of them multiplied by what makes them integers.

    Raise NotAdmissible or InvalidFraction if an argument is wrong.
    """
    require_admissible(code)
    require_above_one(fraction)
    over, under = fraction
    top = under
    for _ in code[1:]:
        top = top * over
    # Each step from the last point to the first one divides by the fraction
    # once; the factor has as many powers of its numerator, so // leaves no rest.
    lowest = top - top * over // under
    height = 0
    heights = [height]
    for letter in reversed(code[:-1]):
        if letter == "R":
            height = (top - height) * under // over
        else:
            height = max((height - top) * under // over, lowest)
        heights.append(height)
    return heights[::-1], top


def _weights(code, heights):
    """Return for each piece by how much its right end is higher than its left end."""
    ascending = [heights[point] for point in ascending_points(code)]
    return tuple([right - left for left, right in zip(ascending, ascending[1:])])
