"""Growth signs and growth polynomials."""

from humpcodes.codes import require_admissible
from humpcodes.ratios import in_lowest_terms, require_above_one


def growth_signs(code):
    """Return the tuple of the growth signs of an admissible code."""
    require_admissible(code)
    signs = [1]
    for letter in code[:-1]:
        signs.append(signs[-1] if letter == "L" else -signs[-1])
    return tuple(signs)


def growth_value(code, fraction):
    """Return the value of the growth polynomial of an admissible code at a fraction greater than 1."""
    require_admissible(code)
    require_above_one(fraction)
    over, under = fraction
    # The value so far is total / scale.
    total, scale = 1, 1
    for sign in growth_signs(code)[1:]:
        scale = scale * under
        total = total * over + sign * scale
    return in_lowest_terms(total, scale)
