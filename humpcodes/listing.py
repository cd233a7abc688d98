"""Lists and numbers of the admissible codes of a period."""

from humpcodes.codes import LIMIT, first_greater, is_odd, order, require_admissible
from humpcodes.errors import TooMany
from humpcodes.integers import require_period

COUNT_LIMIT = 1000
LIST_LIMIT = 12


def count_codes(period):
    """Return the number of admissible codes of a period from 1 to 1000."""
    require_period(period, COUNT_LIMIT)
    total = 0
    for divisor in range(1, period + 1, 2):
        if period % divisor == 0:
            total += _mu(divisor) * (1 << (period // divisor))
    return total // (2 * period)


def _mu(number):
    """Return 0 if the square of a prime divides the number, otherwise 1 or -1 by its prime divisors."""
    sign = 1
    rest = number
    for divisor in range(2, number + 1):
        if rest % divisor == 0:
            rest = rest // divisor
            sign = -sign
            if rest % divisor == 0:
                return 0
    return sign


def codes_of_period(period):
    """Return the admissible codes of the period in ascending order."""
    _require_listed(period)
    return all_of_period(period)


def codes_up_to(period):
    """Return the admissible codes of at most the period in ascending order."""
    _require_listed(period)
    return _all_up_to(period)


def next_code(code, period):
    """Return the smallest admissible code of at most the period that is greater than the code, or None."""
    require_admissible(code)
    for other in codes_up_to(period):
        if order(other, code) > 0:
            return other
    return None


def all_of_period(period):
    """Return the admissible codes of the period in ascending order, however many there are."""
    return [code for code in _all_up_to(period) if len(code) == period]


def continued(start):
    """Return the beginnings and the code of one more letter that can be admissible, in ascending order."""
    letters = "RCL" if is_odd(start) else "LCR"
    return [start + letter for letter in letters if first_greater(start + letter) is None]


def _all_up_to(period):
    """Return the admissible codes of at most the period in ascending order, however many there are."""
    rows = [""]
    for _ in range(period):
        rows = [longer for row in rows for longer in _grown(row)]
    return [row for row in rows if row.endswith("C")]


def _grown(row):
    """Return what becomes of a row in the list if all beginnings grow by a letter."""
    return [row] if row.endswith("C") else continued(row)


def _require_listed(period):
    """Raise InvalidPeriod or TooMany unless the codes of the period can be listed."""
    require_period(period, LIMIT)
    if period > LIST_LIMIT:
        raise TooMany("codes are listed up to period 12")
