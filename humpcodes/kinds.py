"""Growth classes, which tell which codes have the same growth."""

from humpcodes.codes import LIMIT, order
from humpcodes.integers import require_period
from humpcodes.least import least_code
from humpcodes.listing import COUNT_LIMIT, all_of_period, count_codes
from humpcodes.products import factors, joined, product_of


def growth_class(code):
    """Return the growth class of an admissible code: None, or how many factors RC are ahead of which other factor."""
    for number, factor in enumerate(factors(code)):
        if factor != "RC":
            return (number, factor)
    return None


def compare_growths(first, second):
    """Return -1, 0 or 1 if the growth of the first code is less than that of the second one, the same or greater."""
    if growth_class(first) == growth_class(second):
        return 0
    return order(first, second)


def codes_of_growth(code, period):
    """Return the admissible codes of a period, from 1 to 40, with the growth of the code, in ascending order."""
    kind = growth_class(code)
    require_period(period, LIMIT)
    if kind is None:
        return [least_code(period)] if _is_power_of_two(period) else []
    start = _start_of(kind)
    if period % len(start) != 0:
        return []
    # Products with the same code on their left are in the order of the codes on their right.
    return [joined(start, rest) for rest in all_of_period(period // len(start))]


def count_of_growth(code, period):
    """Return the number of admissible codes of a period, from 1 to 1000, with the growth of the code."""
    kind = growth_class(code)
    require_period(period, COUNT_LIMIT)
    if kind is None:
        return 1 if _is_power_of_two(period) else 0
    size = len(_start_of(kind))
    return count_codes(period // size) if period % size == 0 else 0


def _start_of(kind):
    """Return the product with which every code of a growth class other than None begins."""
    number, prime = kind
    return product_of(["RC"] * number + [prime], LIMIT)


def _is_power_of_two(number):
    """Return True if an integer from 1 on, a period, is that of a product of codes RC alone, or of C."""
    return number & (number - 1) == 0
