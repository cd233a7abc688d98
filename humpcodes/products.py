"""Products of codes, and the prime codes of which they consist."""

from humpcodes.codes import LIMIT, first_greater, is_odd, require_admissible, require_code
from humpcodes.errors import TooLong

SWAPPED = {"L": "R", "C": "C", "R": "L"}


def product(first, second):
    """Return the product of two codes."""
    require_code(first)
    require_code(second)
    if len(first) * len(second) > LIMIT:
        raise TooLong("the product has more than 40 characters")
    return joined(first, second)


def quotient(code, first):
    """Return the code whose product, with first on its left, is the given code, or None."""
    require_code(code)
    require_code(first)
    return _right_factor(code, first)


def factors(code):
    """Return the list of the prime codes whose product is the admissible code."""
    require_admissible(code)
    found = []
    rest = code
    while rest != "C":
        first = _first_factor(rest)
        found.append(first)
        rest = _right_factor(rest, first)
    return found


def is_prime(code):
    """Return True if the admissible code is prime."""
    require_admissible(code)
    return code != "C" and _first_factor(code) == code


def joined(first, second):
    """Return the product of two codes, however long it is."""
    start = first[:-1]
    return "".join([start + letter for letter in _turned(second, start)])


def product_of(parts, limit):
    """Return the product of a list of codes from left to right, or None if it is longer than the limit."""
    whole = "C"
    for part in parts:
        whole = joined(whole, part)
        # A product never becomes shorter again; many parts would make it huge.
        if len(whole) > limit:
            return None
    return whole


def _turned(letters, start):
    """Return the letters as they follow the start of a block: L and R are exchanged if it is odd."""
    if not is_odd(start):
        return letters
    return "".join([SWAPPED[letter] for letter in letters])


def _right_factor(code, first):
    """Return the code that first has on its right in the product, or None."""
    size = len(first)
    if len(code) % size != 0:
        return None
    rest = _turned(code[size - 1::size], first)
    return rest if joined(first, rest) == code else None


def _first_factor(code):
    """Return the first factor of an admissible code of period 2 or more."""
    # The shortest left factor is prime: a left factor of it would be shorter.
    for size in range(2, len(code)):
        first = code[:size - 1] + "C"
        rest = _right_factor(code, first)
        if rest is not None and first_greater(first) is None and first_greater(rest) is None:
            return first
    return code
