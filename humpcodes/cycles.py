"""Cycles of stroke maps, points that return, and laps of iterates."""

from humpcodes.codes import is_odd, order, require_admissible
from humpcodes.errors import Infinite
from humpcodes.integers import require_count, require_period
from humpcodes.orbits import permutation, positions
from humpcodes.pieces import piece_images
from humpcodes.products import factors
from humpcodes.strokes import moved
from humpcodes.words import ascending_tails, point_among, shortest_part

LISTED_LIMIT = 8
STEP_LIMIT = 60


def realised_words(code, length):
    """Return the realised words of the length, from 1 to 8, that repeat no shorter word, in ascending order."""
    require_admissible(code)
    require_count(length, 1, LISTED_LIMIT)
    return list(_points_of_words(code, length))


def cycles(code, period):
    """Return the cycles of a least period, from 1 to 8, in ascending order of their greatest points."""
    require_admissible(code)
    require_period(period, LISTED_LIMIT)
    if period == len(code) and _ends_in_rc(code):
        raise Infinite("there are infinitely many cycles of this period")
    moves = permutation(code)
    # Points are in the same order as their words.
    greatest = [point for word, point in _points_of_words(code, period).items() if _is_greatest_rotation(word)]
    if period == len(code):
        greatest.append((period - 1, 1))
    return [_cycle_from(moves, point, period) for point in greatest]


def count_returns(code, steps):
    """Return the number of points that return after so many steps, from 1 to 60."""
    require_admissible(code)
    require_count(steps, 1, STEP_LIMIT)
    if steps % len(code) == 0 and _ends_in_rc(code):
        raise Infinite("infinitely many points return after so many steps")
    if code == "C":
        return 1
    # Where the positions return, exactly one side of each of them returns to
    # itself. So the closed ways that belong to no other point are as many as
    # the positions, and stand for them here.
    return _count_closed_ways(piece_images(permutation(code)), steps)


def count_laps(code, steps):
    """Return the number of laps of the iterate with so many steps, from 1 to 60."""
    require_admissible(code)
    require_count(steps, 1, STEP_LIMIT)
    images = piece_images(permutation(code))
    waits = _waits(code)
    inner = [0] * len(images)
    for done in range(steps):
        inner = [_count_turning(ends, inner, waits, done) for ends in images]
    return _count_turning((0, len(code) - 1), inner, waits, steps) + 1


def _points_of_words(code, length):
    """Return the realised words of a length that repeat no shorter word, ascending, with their points."""
    tails = ascending_tails(code)
    moves = permutation(code)
    found = {}
    for word in _words_of_length(length):
        point = point_among(tails, moves, word)
        if point is not None and shortest_part(word) == word:
            found[word] = point
    return found


def _words_of_length(length):
    """Return all words of a length in ascending order."""
    words = [""]
    for _ in range(length):
        words = [word + letter for word in words for letter in ("RL" if is_odd(word) else "LR")]
    return words


def _is_greatest_rotation(word):
    """Return True if no rotation of a word is greater than the word."""
    return all([order(word[index:] + word[:index], word) <= 0 for index in range(1, len(word))])


def _cycle_from(moves, point, period):
    """Return the cycle of a point of this least period."""
    cycle = [point]
    while len(cycle) < period:
        cycle.append(moved(moves, cycle[-1]))
    return cycle


def _ends_in_rc(code):
    """Return True if the last factor of the admissible code is RC."""
    return factors(code)[-1:] == ["RC"]


def _count_closed_ways(images, steps):
    """Return the number of ways of so many steps from a piece to the same piece."""
    total = 0
    for piece in range(len(images)):
        ways = [0] * len(images)
        ways[piece] = 1
        for _ in range(steps):
            ways = [sum(ways[low:high]) for low, high in images]
        total += ways[piece]
    return total


def _waits(code):
    """Return for each position the number of steps to the turning position."""
    waits = [0] * len(code)
    for index, place in enumerate(positions(code)):
        waits[place] = len(code) - 1 - index
    return waits


def _count_turning(ends, inner, waits, steps):
    """Return how many points between two positions reach the turning position in fewer than so many steps.

    For the points inside of the pieces this number is given by inner.
    """
    low, high = ends
    reached = [place for place in range(low + 1, high) if waits[place] < steps]
    return sum(inner[low:high]) + len(reached)
