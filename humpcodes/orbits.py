"""The order of the points of an orbit, and the permutation by which they move."""

from humpcodes.codes import LIMIT, order_key, require_admissible
from humpcodes.errors import InvalidPermutation
from humpcodes.integers import is_whole_number


def positions(code):
    """Return the tuple of the positions of the points 0, 1, ... of an admissible code."""
    require_admissible(code)
    places = [0] * len(code)
    for place, point in enumerate(ascending_points(code)):
        places[point] = place
    return tuple(places)


def permutation(code):
    """Return the permutation of an admissible code."""
    places = positions(code)
    moves = [0] * len(places)
    for place, target in zip(places, places[1:] + places[:1]):
        moves[place] = target
    return tuple(moves)


def is_hump(value):
    """Return True if the value, any value, is a hump permutation."""
    if not isinstance(value, tuple) or not 1 <= len(value) <= LIMIT:
        return False
    if not all([is_whole_number(entry) for entry in value]):
        return False
    if sorted(value) != list(range(len(value))):
        return False
    return len(_cycle_from(0, value)) == len(value) and _has_one_hump(value)


def code_of(moves):
    """Return the admissible code of a hump permutation."""
    if not is_hump(moves):
        raise InvalidPermutation("this is not a hump permutation")
    top = len(moves) - 1
    turning = moves.index(top)
    return "".join([letter_beside(place, turning) for place in _cycle_from(top, moves)])


def ascending_points(code):
    """Return the numbers of the points of a code in ascending order of their tails."""
    return sorted(range(len(code)), key=lambda point: order_key(code[point:]))


def letter_beside(place, turning):
    """Return the letter of a place, seen from the turning one."""
    if place == turning:
        return "C"
    return "L" if place < turning else "R"


def _cycle_from(start, moves):
    """Return the positions that a permutation reaches from the start until it returns."""
    cycle = [start]
    while moves[cycle[-1]] != start:
        cycle.append(moves[cycle[-1]])
    return cycle


def _has_one_hump(moves):
    """Return True if the entries increase up to the greatest one and decrease after it."""
    turning = moves.index(len(moves) - 1)
    rising = list(moves[:turning])
    falling = list(moves[turning:])
    return rising == sorted(rising) and falling == sorted(falling, reverse=True)
