"""The checker of certificates.

Each function that judges a kind of certificate raises the errors of the
entries that are checked before. Then it returns the number of the first
condition that does not hold, or None if all hold.
"""

from humpcodes.between import are_neighbours
from humpcodes.codes import LIMIT, is_admissible_code, is_code, order, require_admissible, require_code
from humpcodes.errors import NotACertificate
from humpcodes.forms import has_form, verdict
from humpcodes.integers import is_whole_number
from humpcodes.least import least_code
from humpcodes.products import product_of
from humpcodes.strokes import image_after, is_point, itinerary
from humpcodes.words import is_word


def _judge_not_admissible(entries):
    code, index = entries
    require_code(code)
    if not is_whole_number(index) or not 1 <= index < len(code):
        return 0
    return None if order(code[index:], code) > 0 else 1


def _judge_product(entries):
    code, parts = entries
    require_code(code)
    if not isinstance(parts, list) or not all([is_code(part) for part in parts]):
        return 0
    return None if product_of(parts, len(code)) == code else 1


def _judge_between(entries):
    first, second, code = entries
    require_admissible(first)
    require_admissible(second)
    if not is_admissible_code(code):
        return 0
    return None if order(first, code) * order(code, second) > 0 else 1


def _judge_neighbours(entries):
    first, second = entries
    return None if are_neighbours(first, second) else 0


def _judge_point(entries):
    code, point, word = entries
    require_admissible(code)
    if not is_point(code, point) or not is_word(word):
        return 0
    steps = len(word)
    if itinerary(code, point, steps) != word or image_after(code, point, steps) != point:
        return 1
    return None


def _judge_no_period(entries):
    code, period = entries
    require_admissible(code)
    if not is_whole_number(period) or not 1 <= period <= LIMIT:
        return 0
    return None if order(least_code(period), code) > 0 else 1


SIZES = {
    "not admissible": 3,
    "product": 3,
    "between": 4,
    "neighbours": 3,
    "point": 4,
    "no period": 3,
}
JUDGES = {
    "not admissible": _judge_not_admissible,
    "product": _judge_product,
    "between": _judge_between,
    "neighbours": _judge_neighbours,
    "point": _judge_point,
    "no period": _judge_no_period,
}


def check(certificate):
    """Return ("right",), or ("wrong", k) if k is the first condition that does not hold."""
    if not has_form(certificate, dict(SIZES)):
        raise NotACertificate("this is not a certificate")
    judge = JUDGES[certificate[0]]
    return verdict(judge(certificate[1:]))

