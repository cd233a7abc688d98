"""What the checker of certificates and the judge of records share."""


def has_form(value, sizes):
    """Return True if the value, any value, is a tuple that begins with a key of sizes and has the size of this key."""
    if not isinstance(value, tuple) or len(value) == 0:
        return False
    kind = value[0]
    return isinstance(kind, str) and kind in sizes and len(value) == sizes[kind]


def verdict(failed):
    """Return the result for the number of the first condition that does not hold, or for None if all hold."""
    return ("right",) if failed is None else ("wrong", failed)
