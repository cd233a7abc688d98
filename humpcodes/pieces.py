"""The pieces of stroke maps, and weights of the pieces."""

from humpcodes.codes import require_admissible
from humpcodes.integers import is_whole_number
from humpcodes.orbits import permutation
from humpcodes.ratios import require_above_one


def covered_pieces(code):
    """Return for each piece the least and the greatest piece that its image covers."""
    return [(low, high - 1) for low, high in piece_images(permutation(code))]


def are_upper(code, fraction, value):
    """Return True if the value, any value, is upper weights of the code for the fraction."""
    require_admissible(code)
    require_above_one(fraction)
    if not _are_weights(value, len(code) - 1, 1):
        return False
    return all([covered <= own for covered, own in _balances(code, fraction, value)])


def are_lower(code, fraction, value):
    """Return True if the value, any value, is lower weights of the code for the fraction."""
    require_admissible(code)
    require_above_one(fraction)
    if not _are_weights(value, len(code) - 1, 0) or sum(value) == 0:
        return False
    return all([covered >= own for covered, own in _balances(code, fraction, value)])


def piece_images(moves):
    """Return the least and the greatest position of the image of each piece, for the permutation of a code."""
    return [(min(one, other), max(one, other)) for one, other in zip(moves, moves[1:])]


def _are_weights(value, number, least):
    """Return True if the value, any value, is a tuple of so many integers that are not less than the least one."""
    if not isinstance(value, tuple) or len(value) != number:
        return False
    return all([is_whole_number(weight) and weight >= least for weight in value])


def _balances(code, fraction, weights):
    """Return for each piece the two numbers that are compared: of the covered weights, and of its own one."""
    over, under = fraction
    images = piece_images(permutation(code))
    return [(under * sum(weights[low:high]), over * own) for (low, high), own in zip(images, weights)]
