"""The errors of the growths, the ladder and the records."""

from humpcodes.errors import CodeError


class InvalidFraction(CodeError):
    """A value is not a fraction that is allowed here."""


class InvalidSize(CodeError):
    """A value is not a size or a factor that is allowed here."""


class SameGrowth(CodeError):
    """Two codes have the same growth where unlike ones are needed."""


class NotARecord(CodeError):
    """A value is not a record."""
