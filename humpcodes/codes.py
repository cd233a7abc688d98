"""Codes: what they are, how they are compared, which ones are admissible."""

from humpcodes.errors import NotACode, NotAdmissible

LIMIT = 40
LETTERS = "LCR"


def is_code(value):
    """Return True if the value, any value, is a code of at most 40 characters."""
    if not isinstance(value, str) or not 1 <= len(value) <= LIMIT:
        return False
    return value[-1] == "C" and all(letter in "LR" for letter in value[:-1])


def require_code(value):
    """Raise NotACode unless the value is a code."""
    if not is_code(value):
        raise NotACode("a code has at most 39 letters L and R, then C")


def is_admissible_code(value):
    """Return True if the value, any value, is an admissible code."""
    return is_code(value) and first_greater(value) is None


def require_admissible(value):
    """Raise NotAdmissible unless the value is an admissible code."""
    if not is_admissible_code(value):
        raise NotAdmissible("this is not an admissible code")


def is_odd(letters):
    """Return True if the letters have an odd number of R."""
    return letters.count("R") % 2 == 1


def order(first, second):
    """Return -1, 0 or 1 if the first string of letters is less, equal or greater.

    Beginnings of codes may be compared, too: 0 if the one continues the other.
    """
    sign = 1
    for one, other in zip(first, second):
        if one != other:
            return sign if LETTERS.index(one) > LETTERS.index(other) else -sign
        if one == "R":
            sign = -sign
    return 0


def order_key(code):
    """Return a list of numbers; such lists of codes are in the same order as the codes."""
    numbers = []
    sign = 1
    for letter in code:
        numbers.append(sign * (LETTERS.index(letter) - 1))
        if letter == "R":
            sign = -sign
    return numbers


def first_greater(letters):
    """Return the smallest index of a tail that is greater than all the letters, or None.

    The letters are a code or the beginning of one. A tail of a beginning that
    may become greater only by what follows does not count.
    """
    for index in range(1, len(letters)):
        if order(letters[index:], letters) > 0:
            return index
    return None


def compare(first, second):
    """Return -1, 0 or 1 if the first code is less than, equal to or greater than the second one."""
    require_code(first)
    require_code(second)
    return order(first, second)


def is_admissible(code):
    """Return True if no tail of the code is greater than the code."""
    require_code(code)
    return first_greater(code) is None


def greater_tail(code):
    """Return the smallest index of a tail that is greater than the code, or None."""
    require_code(code)
    return first_greater(code)
