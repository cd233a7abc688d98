"""Stroke maps: the piecewise linear maps through the orbits of codes."""

from humpcodes.codes import require_admissible
from humpcodes.errors import InvalidPoint, TooLong
from humpcodes.integers import require_count
from humpcodes.orbits import letter_beside, permutation
from humpcodes.ratios import in_lowest_terms, is_fraction

STEP_LIMIT = 10000
ORBIT_LIMIT = 1000


def is_point(code, value):
    """Return True if the value, any value, is a point of the stroke map of the admissible code."""
    require_admissible(code)
    if not is_fraction(value):
        return False
    over, under = value
    return 0 <= over <= (len(code) - 1) * under


def image(code, point):
    """Return the value of the stroke map at a point."""
    return moved(_moves_for(code, point), point)


def image_after(code, point, steps):
    """Return the point after so many steps, from 0 to 10000."""
    moves = _moves_for(code, point)
    require_count(steps, 0, STEP_LIMIT)
    place = point
    for _ in range(steps):
        place = moved(moves, place)
    return place


def itinerary(code, point, length):
    """Return the first letters of the itinerary of a point, from 0 to 10000 of them."""
    moves = _moves_for(code, point)
    require_count(length, 0, STEP_LIMIT)
    turning = moves.index(len(moves) - 1)
    letters = []
    place = point
    for _ in range(length):
        over, under = place
        letters.append(letter_beside(over, turning * under))
        place = moved(moves, place)
    return "".join(letters)


def orbit(code, point):
    """Return the start and the cycle of the orbit of a point, two lists of points."""
    moves = _moves_for(code, point)
    numbers = {}
    path = []
    place = point
    while place not in numbers:
        if len(path) == ORBIT_LIMIT:
            raise TooLong("the orbit has more than 1000 points")
        numbers[place] = len(path)
        path.append(place)
        place = moved(moves, place)
    first = numbers[place]
    return path[:first], path[first:]


def least_period(code, point):
    """Return the number of points of the cycle that the point is in, or None if it is in none."""
    start, cycle = orbit(code, point)
    return None if start else len(cycle)


def moved(moves, point):
    """Return the image of a point in the stroke map of a code that has the permutation moves."""
    over, under = point
    left = over // under
    rest = over - left * under
    # The greatest position has no neighbour on its right.
    if rest == 0:
        return (moves[left], 1)
    rise = moves[left + 1] - moves[left]
    return in_lowest_terms(moves[left] * under + rise * rest, under)


def _moves_for(code, point):
    """Return the permutation of the code; raise NotAdmissible or InvalidPoint if an argument is wrong."""
    if not is_point(code, point):
        raise InvalidPoint("this is not a point of the stroke map")
    return permutation(code)
