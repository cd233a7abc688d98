"""A workspace, which keeps admissible codes under names."""

from humpcodes.between import shortest_between
from humpcodes.codes import order, order_key, require_admissible
from humpcodes.errors import Full, InvalidMark, InvalidName, NameTaken, UnknownName
from humpcodes.integers import is_whole_number
from humpcodes.products import product

NAME_LETTERS = "abcdefghijklmnopqrstuvwxyz"
NAME_LENGTH = 8
NAME_LIMIT = 12
MARK_LIMIT = 6


class Workspace:
    """Admissible codes under names, and marks to which one can return."""

    def __init__(self):
        self._codes = {}
        # Each mark is a dict of its own, which is never changed.
        self._marks = []

    def put(self, name, code):
        """Store an admissible code under a new name."""
        self._require_new(name)
        require_admissible(code)
        self._store(name, code)

    def multiply(self, name, first, second):
        """Store the product of the codes of two names under a new name."""
        self._require_new(name)
        left, right = self.code(first), self.code(second)
        self._store(name, product(left, right))

    def split(self, name, first, second):
        """Store the shortest admissible code between the codes of two names under a new name."""
        self._require_new(name)
        one, other = self.code(first), self.code(second)
        self._store(name, shortest_between(one, other))

    def remove(self, name):
        """Remove a name."""
        self._require_known(name)
        del self._codes[name]

    def mark(self):
        """Make a mark and return its number."""
        if len(self._marks) >= MARK_LIMIT:
            raise Full(MARK_LIMIT)
        self._marks.append(dict(self._codes))
        return len(self._marks) - 1

    def back(self, number):
        """Return to a mark and remove all later marks."""
        if not is_whole_number(number) or not 0 <= number < len(self._marks):
            raise InvalidMark(number)
        self._marks = self._marks[:number + 1]
        self._codes = dict(self._marks[number])

    def names(self):
        """Return the ascending list of the names."""
        return sorted(self._codes)

    def marks(self):
        """Return the ascending list of the numbers of the marks."""
        return list(range(len(self._marks)))

    def code(self, name):
        """Return the code of a name."""
        self._require_known(name)
        return self._codes[name]

    def ranking(self):
        """Return all names in ascending order of their codes, those with equal codes in ascending order."""
        return sorted(self._codes, key=lambda name: (order_key(self._codes[name]), name))

    def forced_by(self, name):
        """Return all other names whose codes the code of this name forces, in the order of the ranking."""
        code = self.code(name)
        return [other for other in self.ranking() if other != name and order(self._codes[other], code) <= 0]

    def _require_new(self, name):
        """Raise InvalidName or NameTaken unless the name can be given to a code."""
        if not _is_name(name):
            raise InvalidName(name)
        if name in self._codes:
            raise NameTaken(name)

    def _require_known(self, name):
        """Raise UnknownName unless the value, any value, is a stored name."""
        # Lists cannot be looked up in a dict.
        if not isinstance(name, str) or name not in self._codes:
            raise UnknownName(name)

    def _store(self, name, code):
        """Store a code under a name, which is new and valid."""
        if len(self._codes) >= NAME_LIMIT:
            raise Full(NAME_LIMIT)
        self._codes[name] = code


def _is_name(value):
    """Return True if the value, any value, is a string of 1 to 8 characters from a to z."""
    if not isinstance(value, str) or not 1 <= len(value) <= NAME_LENGTH:
        return False
    return all(letter in NAME_LETTERS for letter in value)
