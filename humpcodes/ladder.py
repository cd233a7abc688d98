"""A ladder: a workspace that also tells the growths of its codes."""

from humpcodes.floors import SIZE_LIMIT, growth_floor, simplest_fraction
from humpcodes.integers import require_size
from humpcodes.kinds import growth_class
from humpcodes.ratios import require_above_one
from humpcodes.tents import growth_side
from humpcodes.workspace import Workspace

FACTOR_LIMIT = 1000


class Ladder:
    """Admissible codes under names, on rungs by their growths, and marks to which one can return."""

    def __init__(self):
        self._space = Workspace()
        self._size = 1
        # The sizes that the marks of the workspace store.
        self._sizes = []

    def put(self, name, code):
        """Store an admissible code under a new name."""
        self._space.put(name, code)

    def multiply(self, name, first, second):
        """Store the product of the codes of two names under a new name."""
        self._space.multiply(name, first, second)

    def split(self, name, first, second):
        """Store the shortest admissible code between the codes of two names under a new name."""
        self._space.split(name, first, second)

    def remove(self, name):
        """Remove a name."""
        self._space.remove(name)

    def mark(self):
        """Make a mark, which also stores the size, and return its number."""
        number = self._space.mark()
        self._sizes.append(self._size)
        return number

    def back(self, number):
        """Return to a mark and its size, and remove all later marks."""
        self._space.back(number)
        self._sizes = self._sizes[:number + 1]
        self._size = self._sizes[number]

    def names(self):
        """Return the ascending list of the names."""
        return self._space.names()

    def marks(self):
        """Return the ascending list of the numbers of the marks."""
        return self._space.marks()

    def code(self, name):
        """Return the code of a name."""
        return self._space.code(name)

    def ranking(self):
        """Return all names in ascending order of their codes, those with equal codes in ascending order."""
        return self._space.ranking()

    def forced_by(self, name):
        """Return all other names whose codes the code of this name forces, in the order of the ranking."""
        return self._space.forced_by(name)

    def growth_ranking(self):
        """Return a list of names for each growth, in ascending order of the growths."""
        found = {}
        # A greater code never has a less growth.
        for name in self.ranking():
            found.setdefault(growth_class(self.code(name)), []).append(name)
        return [sorted(group) for group in found.values()]

    def growing_like(self, name):
        """Return the ascending list of all other names whose codes have the growth of the code of this name."""
        kind = growth_class(self.code(name))
        return [other for other in self.names() if other != name and growth_class(self.code(other)) == kind]

    def between_fractions(self, low, high):
        """Return the ascending list of the names whose codes have a growth greater than low and less than high."""
        require_above_one(low)
        require_above_one(high)
        above = [name for name in self.names() if growth_side(self.code(name), low) > 0]
        return [name for name in above if growth_side(self.code(name), high) < 0]

    def wedge(self, first, second):
        """Return the simplest fraction between the growths of the codes of two names."""
        one, other = self.code(first), self.code(second)
        return simplest_fraction(one, other)

    def refine(self, factor):
        """Multiply the size by an integer from 2 to 1000."""
        require_size(factor, 2, FACTOR_LIMIT)
        finer = self._size * factor
        require_size(finer, 1, SIZE_LIMIT)
        self._size = finer

    def size(self):
        """Return the size."""
        return self._size

    def rungs(self):
        """Return the ascending list of the rungs of the names, each with the ascending list of its names."""
        found = {}
        for name in self.names():
            found.setdefault(growth_floor(self.code(name), self._size), []).append(name)
        return [(floor, found[floor]) for floor in sorted(found)]
