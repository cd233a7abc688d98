"""The errors that the program raises."""


class CodeError(ValueError):
    """The base class of all errors of the program."""


class NotACode(CodeError):
    """A value is not a code of at most 40 characters."""


class NotAdmissible(CodeError):
    """A value is not an admissible code."""


class InvalidPeriod(CodeError):
    """A value is not a period that is allowed here."""


class InvalidCount(CodeError):
    """A value is not a number of steps or letters that is allowed here."""


class InvalidWord(CodeError):
    """A value is not a word."""


class InvalidPoint(CodeError):
    """A value is not a point of the stroke map."""


class InvalidPermutation(CodeError):
    """A value is not a hump permutation."""


class SameCode(CodeError):
    """Two codes are equal where different ones are needed."""


class Neighbours(CodeError):
    """Two codes have no admissible code between them."""


class NotForced(CodeError):
    """A code is not forced by another one."""


class TooLong(CodeError):
    """A result would have more letters or points than are allowed."""


class TooMany(CodeError):
    """A list would have too many entries."""


class Infinite(CodeError):
    """There are infinitely many of the cycles in question."""


class NotACertificate(CodeError):
    """A value is not a certificate."""


# The messages below do not show the argument: it may be any value, and
# Python refuses to write out integers of some thousand digits.


class InvalidName(CodeError):
    """A value is not a name."""

    def __init__(self, name):
        super().__init__("a name is a string of 1 to 8 characters from a to z")
        self.name = name


class NameTaken(CodeError):
    """A name is used already."""

    def __init__(self, name):
        super().__init__("the name is taken")
        self.name = name


class UnknownName(CodeError):
    """A name is not used."""

    def __init__(self, name):
        super().__init__("the name is not known")
        self.name = name


class Full(CodeError):
    """There is no room for one more."""

    def __init__(self, limit):
        super().__init__("the limit is reached")
        self.limit = limit


class InvalidMark(CodeError):
    """A value is not the number of a mark."""

    def __init__(self, number):
        super().__init__("there is no mark of this number")
        self.number = number
