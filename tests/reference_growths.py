"""The definitions of stages 13 to 18, written down as directly as possible with Python's own fractions.

Nothing here uses the program.
"""

from fractions import Fraction
from functools import lru_cache
from math import gcd

from tests import reference
from tests import reference_maps as maps


def pair(r):
    return (r.numerator, r.denominator)


def fractions_up_to(under, limit):
    """All fractions greater than 1 and not greater than the limit with denominators up to a given one."""
    return [(a, b) for b in range(1, under + 1) for a in range(b + 1, limit * b + 1) if gcd(a, b) == 1]


def covered(code, piece):
    """The pieces that the image of a piece covers."""
    return [other for other in range(len(code) - 1) if maps.is_covered(code, piece, other)]


def are_weights(value, code, least):
    return (type(value) is tuple and len(value) == len(code) - 1
            and all(type(weight) is int and weight >= least for weight in value))


def are_upper(code, fraction, value):
    a, b = fraction
    return are_weights(value, code, 1) and all(
        b * sum(value[other] for other in covered(code, piece)) <= a * value[piece] for piece in range(len(value)))


def are_lower(code, fraction, value):
    a, b = fraction
    return are_weights(value, code, 0) and any(weight > 0 for weight in value) and all(
        b * sum(value[other] for other in covered(code, piece)) >= a * value[piece] for piece in range(len(value)))


def is_growth_less(code, r):
    """Whether the growth is less than a number: whether all leading minors of r - matrix are positive.

    The matrix tells which piece covers which one, and the growth is its
    greatest eigenvalue, or 1; r is greater than 1. No fraction greater than 1
    is an eigenvalue, so the minor of the whole matrix is never 0.
    """
    size = len(code) - 1
    rows = [[r * (one == other) - maps.is_covered(code, one, other) for other in range(size)] for one in range(size)]
    for step in range(size):
        if rows[step][step] <= 0:
            return False
        for row in rows[step + 1:]:
            ratio = row[step] / rows[step][step]
            for place in range(step, size):
                row[place] -= ratio * rows[step][place]
    return True


def halved(is_less, steps):
    """The last numbers not less and greater, if the interval from 1 to 2 is halved again and again."""
    low, high = Fraction(1), Fraction(2)
    for _ in range(steps):
        middle = (low + high) / 2
        if is_less(middle):
            high = middle
        else:
            low = middle
    return low, high


@lru_cache(maxsize=None)
def growth_within(code, steps=30):
    """Two fractions, a half to the power steps apart, with the growth between them (or at the first one if it is 1)."""
    return halved(lambda r: is_growth_less(code, r), steps)


def growth_signs(code):
    signs = [1]
    for index in range(1, len(code)):
        signs.append(signs[index - 1] * (1 if code[index - 1] == "L" else -1))
    return tuple(signs)


def growth_value(code, r):
    signs = growth_signs(code)
    return sum(sign * r ** (len(code) - 1 - index) for index, sign in enumerate(signs))


def tent_letters(r, length):
    x = Fraction(1)
    letters = ""
    for _ in range(length):
        assert x != 0
        letters += "L" if x < 0 else "R"
        x = 1 - r * abs(x)
    return letters


def is_growth_less_by_letters(code, r):
    """The comparison of point 29."""
    return r > 2 or reference.compare(tent_letters(r, len(code)), code) > 0


def rounded(code, steps=40):
    """The same by the letters, which is quicker for long codes."""
    return halved(lambda r: is_growth_less_by_letters(code, r), steps)


SCALE = 10 ** 30


@lru_cache(maxsize=None)
def growth(code):
    """The floor of the growth for the size SCALE, which is large enough to tell the growths of the tests apart."""
    low, high = SCALE, 2 * SCALE
    while high - low > 1:
        middle = (low + high) // 2
        if reference.compare(scaled_letters(middle, SCALE, len(code)), code) > 0:
            high = middle
        else:
            low = middle
    return low


def scaled_letters(a, b, length):
    """The letters of the tent map of a / b, step by step with integers, which is quicker."""
    letters = ""
    x, unit = 1, 1
    for _ in range(length):
        letters += "L" if x < 0 else "R"
        x, unit = unit * b - a * abs(x), unit * b
    return letters


def growth_class(code):
    """The growth class, by the list of factors of which there is only one."""
    parts = reference.factorings(code)[0]
    ahead = 0
    while ahead < len(parts) and parts[ahead] == "RC":
        ahead += 1
    return (ahead, parts[ahead]) if ahead < len(parts) else None


def floor(code, size):
    return growth(code) * size // SCALE


def simplest(low, high):
    """The fraction with the least denominator between two numbers, with the least numerator of these, by trying."""
    under = 1
    while True:
        over = low * under // 1 + 1
        if over < high * under:
            return over, under
        under += 1


def parents(fraction):
    """The two fractions with less denominators between which the fraction is the next one."""
    a, b = fraction
    if b == 1:
        return (a - 1, 1), (1, 0)
    under = pow(a, -1, b)
    over = (a * under - 1) // b
    return (over, under), (a - over, b - under)
