"""The definitions of stages 7 to 10, written down as directly as possible with Python's own fractions.

Nothing here uses the program.
"""

import itertools
from fractions import Fraction
from functools import lru_cache

from tests import reference


def pair(number):
    return (number.numerator, number.denominator)


def number(point):
    return Fraction(point[0], point[1])


@lru_cache(maxsize=None)
def moves_of(code):
    return reference.permutation(code)


@lru_cache(maxsize=None)
def turning_of(code):
    """The position of the turning point, which is the last one."""
    return reference.positions(code)[-1]


def image(code, x):
    moves = moves_of(code)
    left = x.numerator // x.denominator
    if x == left:
        return Fraction(moves[left])
    return moves[left] + (moves[left + 1] - moves[left]) * (x - left)


def letter(code, x):
    turning = turning_of(code)
    return "C" if x == turning else "L" if x < turning else "R"


def images(code, x, steps):
    """The point, its image, and so on: one more than there are steps."""
    path = [x]
    for _ in range(steps):
        path.append(image(code, path[-1]))
    return path


def itinerary(code, x, length):
    return "".join([letter(code, y) for y in images(code, x, length)[:length]])


def orbit(code, x):
    path = {}
    while x not in path:
        path[x] = len(path)
        x = image(code, x)
    points = list(path)
    return points[:path[x]], points[path[x]:]


def least_period(code, x):
    start, cycle = orbit(code, x)
    return None if start else len(cycle)


def word_period(word):
    return min(size for size in range(1, len(word) + 1)
               if len(word) % size == 0 and word == word[:size] * (len(word) // size))


def piece_count(code):
    return len(code) - 1


def is_covered(code, piece, other):
    """Whether the image of a piece covers another one."""
    ends = moves_of(code)[piece:piece + 2]
    return min(ends) <= other < max(ends)


def closed_ways(code, word):
    """The closed ways over pieces with the letters of the word."""
    turning = turning_of(code)
    choices = {
        "L": [piece for piece in range(piece_count(code)) if piece < turning],
        "R": [piece for piece in range(piece_count(code)) if piece >= turning],
    }
    ways = [(piece,) for piece in choices[word[0]]]
    for one in word[1:]:
        ways = [way + (piece,) for way in ways for piece in choices[one] if is_covered(code, way[-1], piece)]
    return [way for way in ways if is_covered(code, way[-1], way[0])]


def solve(code, way):
    """The point that goes along the way and returns, as the only one."""
    moves = moves_of(code)
    # Two points of the first piece tell where the way takes every point of it.
    ends = []
    for x in (Fraction(0), Fraction(1)):
        for piece in way:
            x = moves[piece] + (moves[piece + 1] - moves[piece]) * (x - piece)
        ends.append(x)
    slope = ends[1] - ends[0]
    assert slope != 1, (code, way)
    return ends[0] / (1 - slope)


@lru_cache(maxsize=None)
def point_of_word(code, word):
    """The point whose orbit has exactly the letters of the word again and again and its least period, or None."""
    part = word[:word_period(word)]
    found = []
    for way in closed_ways(code, part):
        x = solve(code, way)
        path = images(code, x, len(part))
        if itinerary(code, x, len(part)) == part and path[-1] == x:
            assert x not in path[1:-1]
            found.append(x)
    assert len(found) <= 1, (code, word, found)
    return found[0] if found else None


def all_words(length):
    return ["".join(letters) for letters in itertools.product("LR", repeat=length)]


def ascending_words(length):
    """The words that repeat no shorter one, compared after both have been repeated."""
    return sorted([word for word in all_words(length) if word_period(word) == length],
                  key=lambda word: reference.key(word * 3))


def segments(code, steps):
    """The linear parts of the iterate: tuples (x, value at x) of the ends, ascending by x."""
    ends = [(Fraction(x), Fraction(x)) for x in range(len(code))]
    for _ in range(steps):
        finer = ends[:1]
        for (x, value), (other_x, other) in zip(ends, ends[1:]):
            inside = [y for y in range(len(code)) if min(value, other) < y < max(value, other)]
            if other < value:
                inside.reverse()
            finer.extend([(x + (other_x - x) * (y - value) / (other - value), Fraction(y)) for y in inside])
            finer.append((other_x, other))
        ends = [(x, image(code, value)) for x, value in finer]
    return ends


def returning(code, steps):
    """The points that return after so many steps as the only ones around, and the ends of parts that return whole."""
    ends = segments(code, steps)
    points = {x for x, value in ends if x == value}
    parts = []
    for (x, value), (other_x, other) in zip(ends, ends[1:]):
        slope = (other - value) / (other_x - x)
        if slope == 1 and x == value:
            parts.append((x, other_x))
        if slope != 1:
            place = (value - slope * x) / (1 - slope)
            if x <= place <= other_x:
                points.add(place)
    return sorted(points), parts


def fixed_points(code, steps):
    """All points that return after so many steps in ascending order, or None if there are infinitely many."""
    points, parts = returning(code, steps)
    return None if parts else points


def cycles(code, period):
    """All cycles of the least period, or None if there are infinitely many."""
    points, parts = returning(code, period)
    # A third of the way into a part stands for almost all of its points.
    if any(least_period(code, x + (other - x) / 3) == period for x, other in parts):
        return None
    found = []
    for x in points:
        path = images(code, x, period - 1)
        if x == max(path) and len(set(path)) == period:
            found.append(path)
    return found


def turning_points(code, steps):
    """All turning points of the iterate, found backwards from the turning position."""
    moves = moves_of(code)
    found = set()
    last = {Fraction(turning_of(code))}
    for _ in range(steps):
        found |= last
        last = {piece + (x - moves[piece]) / (moves[piece + 1] - moves[piece])
                for x in last for piece in range(piece_count(code))
                if min(moves[piece:piece + 2]) <= x <= max(moves[piece:piece + 2])}
    return {x for x in found if 0 < x < len(code) - 1}


def monotone_parts(code, steps):
    """The number of parts in which the iterate rises or falls."""
    if code == "C":
        return 1
    ends = segments(code, steps)
    rises = [other[1] > one[1] for one, other in zip(ends, ends[1:])]
    return 1 + len([1 for one, other in zip(rises, rises[1:]) if one != other])


def times(one, other):
    columns = list(zip(*other))
    return [[sum(a * b for a, b in zip(row, column)) for column in columns] for row in one]


def closed_ways_by_matrix(code, steps):
    """The trace of the power of the matrix of covered pieces."""
    size = piece_count(code)
    matrix = [[int(is_covered(code, one, other)) for other in range(size)] for one in range(size)]
    power = [[int(one == other) for other in range(size)] for one in range(size)]
    for digit in bin(steps)[2:]:
        power = times(power, power)
        if digit == "1":
            power = times(power, matrix)
    return sum(power[piece][piece] for piece in range(size))


def returns_by_ways(code, steps):
    """The short way of point 22, for a finite number."""
    if code == "C":
        return 1
    closed = closed_ways_by_matrix(code, steps)
    if steps % len(code) != 0:
        return closed
    return closed - len(side_ways(code, steps)) + len(code)


def side_ways(code, steps):
    """The closed ways that follow one side of a position around its orbit."""
    found = set()
    for place in range(len(code)):
        for side in (-1, 1):
            if not 0 <= place + side < len(code):
                continue
            way = []
            at, towards = place, side
            for _ in range(steps):
                way.append(min(at, at + towards))
                at, towards = follow(code, at, towards)
            if (at, towards) == (place, side):
                found.add(tuple(way))
    return found


def follow(code, at, towards):
    moves = moves_of(code)
    rise = moves[at + towards] - moves[at]
    return moves[at], 1 if rise > 0 else -1


@lru_cache(maxsize=None)
def first_reached(code, piece, steps):
    """The number of points inside of a piece that reach the turning position after just so many steps."""
    if steps == 0:
        return 0
    ends = moves_of(code)[piece:piece + 2]
    low, high = min(ends), max(ends)
    places = reference.positions(code)
    waits = {place: len(code) - 1 - index for index, place in enumerate(places)}
    inside = [place for place in range(low + 1, high) if waits[place] == steps - 1]
    return len(inside) + sum(first_reached(code, other, steps - 1) for other in range(low, high))


def laps_by_pieces(code, steps):
    """The short way of point 23."""
    places = reference.positions(code)
    turning = len([index for index, place in enumerate(places)
                   if len(code) - 1 - index < steps and 0 < place < len(code) - 1])
    for piece in range(piece_count(code)):
        turning += sum(first_reached(code, piece, step) for step in range(steps))
    return turning + 1


def growth_signs(code):
    """The signs of point 28, with which numbers of laps add up to 0."""
    signs = [1]
    for one in code[:-1]:
        signs.append(signs[-1] if one == "L" else -signs[-1])
    return signs
