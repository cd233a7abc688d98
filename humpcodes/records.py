"""The judge of records.

Each function that judges a kind of record is given its code, which is
admissible, and its other entries, which are any values. It returns the number
of the first condition that does not hold, or None if all hold.
"""

from humpcodes.codes import LIMIT, is_admissible_code, order, require_admissible
from humpcodes.forms import has_form, verdict
from humpcodes.integers import is_whole_number
from humpcodes.pieces import are_lower, are_upper
from humpcodes.products import is_prime, product_of
from humpcodes.ratios import is_above_one
from humpcodes.tents import first_letters, has_tent
from humpcodes.wrongs import NotARecord

FACTORS_LIMIT = 5


def _judge_upper(code, entries):
    fraction, weights = entries
    if not is_above_one(fraction):
        return 0
    return None if are_upper(code, fraction, weights) else 1


def _judge_lower(code, entries):
    fraction, weights = entries
    if not is_above_one(fraction):
        return 0
    return None if are_lower(code, fraction, weights) else 1


def _judge_flat(code, entries):
    number = entries[0]
    if not _is_number_of_factors(number):
        return 0
    return None if product_of(["RC"] * number, LIMIT) == code else 1


def _judge_class(code, entries):
    number, prime, rest = entries
    if not _is_number_of_factors(number):
        return 0
    if not is_admissible_code(prime) or not is_prime(prime) or prime == "RC":
        return 1
    if not is_admissible_code(rest):
        return 2
    return None if product_of(["RC"] * number + [prime, rest], LIMIT) == code else 3


def _judge_apart(code, entries):
    other, fraction, upper, lower = entries
    if not is_admissible_code(other):
        return 0
    if not is_above_one(fraction):
        return 1
    if not are_upper(code, fraction, upper):
        return 2
    return None if are_lower(other, fraction, lower) else 3


def _judge_tent(code, entries):
    fraction, index, sign = entries
    if not is_above_one(fraction) or not has_tent(fraction):
        return 0
    if not is_whole_number(index) or not 0 <= index < len(code):
        return 1
    letters = first_letters(fraction, index + 1)
    if letters[:index] != code[:index] or letters[index] == code[index]:
        return 2
    return None if is_whole_number(sign) and sign == order(code, letters) else 3


SIZES = {
    "upper": 4,
    "lower": 4,
    "flat": 3,
    "class": 5,
    "apart": 6,
    "tent": 5,
}
JUDGES = {
    "upper": _judge_upper,
    "lower": _judge_lower,
    "flat": _judge_flat,
    "class": _judge_class,
    "apart": _judge_apart,
    "tent": _judge_tent,
}


def judge(record):
    """Return ("right",), or ("wrong", k) if k is the first condition that does not hold."""
    if not has_form(record, dict(SIZES)):
        raise NotARecord("this is not a record")
    require_admissible(record[1])
    judge_kind = JUDGES[record[0]]
    return verdict(judge_kind(record[1], record[2:]))


def _is_number_of_factors(value):
    """Return True if the value, any value, is an integer from 0 to 5."""
    return is_whole_number(value) and 0 <= value <= FACTORS_LIMIT
