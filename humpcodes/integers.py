"""Checks of integers that several files share."""

from humpcodes.errors import InvalidCount, InvalidPeriod
from humpcodes.wrongs import InvalidSize


def is_whole_number(value):
    """Return True if the value is an integer as the document means it."""
    # To Python, True and False are integers too.
    return isinstance(value, int) and not isinstance(value, bool)


def require_period(value, limit=None):
    """Raise InvalidPeriod unless the value is an integer from 1 to the limit, or from 1 on if that is None."""
    if not is_whole_number(value) or value < 1:
        raise InvalidPeriod("a period is an integer from 1 on")
    if limit is not None and value > limit:
        raise InvalidPeriod("the period is too large")


def require_count(value, least, greatest):
    """Raise InvalidCount unless the value is an integer from the least to the greatest one."""
    if not is_whole_number(value) or not least <= value <= greatest:
        raise InvalidCount("the number is not an integer that is allowed here")


def require_size(value, least, greatest):
    """Raise InvalidSize unless the value is an integer from the least to the greatest one."""
    if not is_whole_number(value) or not least <= value <= greatest:
        raise InvalidSize("the size or factor is not an integer that is allowed here")
