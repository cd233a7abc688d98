"""Words, and the points of stroke maps whose itineraries repeat them."""

from humpcodes.codes import LIMIT, order, require_admissible
from humpcodes.errors import InvalidWord
from humpcodes.orbits import ascending_points, permutation
from humpcodes.ratios import in_lowest_terms


def is_word(value):
    """Return True if the value, any value, is a word of 1 to 40 letters L and R."""
    if not isinstance(value, str) or not 1 <= len(value) <= LIMIT:
        return False
    return all(letter in "LR" for letter in value)


def word_period(word):
    """Return the length of the shortest word of which the word is a repetition."""
    _require_word(word)
    return len(shortest_part(word))


def is_realised(code, word):
    """Return True if a point of the stroke map of the admissible code has the word again and again."""
    return point_of_word(code, word) is not None


def point_of_word(code, word):
    """Return the point of the word in the stroke map of the admissible code, or None."""
    require_admissible(code)
    _require_word(word)
    return point_among(ascending_tails(code), permutation(code), word)


def shortest_part(word):
    """Return the shortest word of which the word is a repetition."""
    for size in range(1, len(word)):
        if len(word) % size == 0 and word[:size] * (len(word) // size) == word:
            return word[:size]
    return word


def ascending_tails(code):
    """Return the tails of an admissible code, each at the position of its point."""
    return [code[point:] for point in ascending_points(code)]


def point_among(tails, moves, word):
    """Return the point of the word for the ascending tails and the permutation of a code, or None."""
    pieces = _pieces_of(tails, shortest_part(word))
    if pieces is None:
        return None
    point = _returning_point(moves, pieces)
    # An integer is a position, whose itinerary has the letter C.
    return None if point[1] == 1 else point


def _pieces_of(tails, word):
    """Return the positions left of the points of the word, or None if a rotation is outside of the tails."""
    pieces = []
    for index in range(len(word)):
        # As many letters as the longest code has: one of them differs from the tail.
        rotation = ((word[index:] + word[:index]) * LIMIT)[:LIMIT]
        below = len([tail for tail in tails if order(tail, rotation) < 0])
        if below == 0 or below == len(tails):
            return None
        pieces.append(below - 1)
    return pieces


def _returning_point(moves, pieces):
    """Return the one point that goes over the pieces in turn and then returns."""
    # After the pieces x has become factor * x + shift. The factor is not 1:
    # then the ends of a piece would return too, so after at least as many
    # steps as there are positions; but there are fewer pieces than positions,
    # so the pieces, and with them the letters, would repeat earlier.
    factor, shift = 1, 0
    for left in pieces:
        rise = moves[left + 1] - moves[left]
        factor, shift = rise * factor, moves[left] + rise * (shift - left)
    return in_lowest_terms(shift, 1 - factor)


def _require_word(value):
    """Raise InvalidWord unless the value is a word."""
    if not is_word(value):
        raise InvalidWord("a word has 1 to 40 letters L and R")
