import copy
from fractions import Fraction

from humpcodes.errors import NotAdmissible
from humpcodes.growths import lower_weights, upper_weights
from humpcodes.pieces import are_lower, are_upper, covered_pieces
from humpcodes.wrongs import InvalidFraction
from tests import reference
from tests import reference_growths as growths
from tests import reference_maps as maps
from tests.support import Cases
from tests.values import HUGE, NO_ADMISSIBLE_CODES, NO_CODES, NO_FRACTIONS, NO_PERIODS, NO_POINTS, NO_WORDS, nested

SHORT = reference.admissible_up_to(8)
LONG = reference.long_codes(40, 6) + reference.long_codes(39, 3) + reference.long_codes(20, 3)
TOP = "R" + "L" * 38 + "C"
FRACTIONS = growths.fractions_up_to(5, 3)
ANY_VALUES = NO_CODES + NO_PERIODS + NO_POINTS + NO_WORDS + NO_FRACTIONS + [(3, 2), (5, 3), (1, 1), (1,)]


class CoveredPiecesTest(Cases):
    def test_all_small_codes(self):
        for code in SHORT + LONG:
            found = covered_pieces(code)
            self.assertEqual(len(found), len(code) - 1)
            for piece, entry in enumerate(found):
                self.assertIs(type(entry), tuple)
                first, last = entry
                expected = growths.covered(code, piece)
                self.assertEqual(list(range(first, last + 1)), expected, (code, piece))
                self.assertEqual([type(first), type(last)], [int, int])

    def test_against_the_image_of_points(self):
        for code in SHORT:
            for piece, (first, last) in enumerate(covered_pieces(code)):
                ends = [maps.image(code, Fraction(piece)), maps.image(code, Fraction(piece + 1))]
                self.assertEqual((min(ends), max(ends)), (first, last + 1))

    def test_edges(self):
        self.assertEqual(covered_pieces("C"), [])
        self.assertEqual(covered_pieces("RC"), [(0, 0)])
        self.assertEqual(covered_pieces("RLC"), [(1, 1), (0, 1)])
        self.assertEqual(covered_pieces("RLRC"), [(2, 2), (1, 2), (0, 0)])
        self.assertEqual(covered_pieces(TOP), [(place, place) for place in range(1, 39)] + [(0, 38)])

    def test_new_lists(self):
        for code in ("C", "RC", "RLLRC", TOP):
            self.check_new_list(covered_pieces, code)

    def test_not_admissible(self):
        self.check_all_raise(NotAdmissible, covered_pieces, NO_ADMISSIBLE_CODES)


class WeightsCases(Cases):
    def check_upper(self, code, fraction, value):
        self.check_both(code, fraction, value, True, False)

    def check_lower(self, code, fraction, value):
        self.check_both(code, fraction, value, False, True)

    def check_neither(self, code, fraction, value):
        self.check_both(code, fraction, value, False, False)

    def check_both(self, code, fraction, value, upper, lower):
        # Values are not shown in messages: some of them are too large to be written out.
        self.assertIs(are_upper(code, fraction, value), upper)
        self.assertIs(are_lower(code, fraction, value), lower)


class SmallWeightsTest(WeightsCases):
    def test_all_small_tuples(self):
        for code in ("C", "RC", "RLC", "RLRC", "RLLC"):
            values = [()]
            for _ in code[1:]:
                values = [value + (entry,) for value in values for entry in range(-1, 5)]
            for fraction in FRACTIONS:
                for value in values:
                    expected = growths.are_upper(code, fraction, value), growths.are_lower(code, fraction, value)
                    self.assertEqual((are_upper(code, fraction, value), are_lower(code, fraction, value)), expected)

    def test_known_weights(self):
        self.check_upper("RLC", (5, 3), (3, 5))
        self.check_lower("RLC", (8, 5), (5, 8))
        self.check_lower("RLC", (8, 5), (3, 5))
        self.check_upper("RLC", (5, 3), (5, 8))
        # One sum is greater than its bound, the other one less.
        self.check_neither("RLC", (13, 8), (3, 5))

    def test_exactly_equal(self):
        # Piece 0 covers piece 1, piece 1 covers both.
        self.check_upper("RLC", (2, 1), (1, 2))
        self.check_upper("RLC", (2, 1), (1, 1))
        self.check_upper("RLC", (5, 3), (9, 15))
        self.check_upper("RLC", (5, 3), (9, 14))
        self.check_neither("RLC", (5, 3), (9, 13))
        self.check_neither("RLC", (5, 3), (9, 16))
        self.check_lower("RLC", (3, 2), (2, 3))
        self.check_lower("RLC", (3, 2), (4, 6))
        self.check_lower("RLC", (3, 2), (2, 4))
        self.check_neither("RLC", (3, 2), (3, 4))
        self.check_neither("RLC", (3, 2), (2, 5))

    def test_edge_of_two_letters(self):
        for fraction in FRACTIONS + [(HUGE + 1, HUGE), (HUGE, 7)]:
            for weight in (1, 2, 10 ** 30, HUGE):
                self.check_upper("RC", fraction, (weight,))
            for weight in (0, -1, -HUGE, True, False, None, "1", [1], (1,)):
                self.check_neither("RC", fraction, (weight,))

    def test_c(self):
        for fraction in FRACTIONS:
            self.check_upper("C", fraction, ())
            for value in ([], (1,), (0,), ((),), None, "", "C", 0, 1, True, False, [()]):
                self.check_neither("C", fraction, value)

    def test_zeros(self):
        for code in SHORT[1:]:
            for fraction in ((3, 2), (101, 100), (2, 1), (5, 2)):
                zeros = (0,) * (len(code) - 1)
                self.check_neither(code, fraction, zeros)
                for place in range(len(zeros)):
                    value = zeros[:place] + (1,) + zeros[place + 1:]
                    self.assertIs(are_lower(code, fraction, value), growths.are_lower(code, fraction, value))
                    self.assertIs(are_upper(code, fraction, value), growths.are_upper(code, fraction, value))

    def test_zeros_among_lower_weights(self):
        self.check_lower("RLLC", (3, 2), (0, 1, 2))
        self.check_lower("RLLRC", (4, 3), (2, 0, 3, 1))
        self.check_lower("RLLRLC", (3, 2), (0, 1, 0, 2, 0))
        self.check_lower("RLLLLC", (3, 2), (0, 0, 0, 1, 2))
        self.check_neither("RLLLLC", (5, 3), (0, 0, 0, 1, 2))
        self.check_neither("RLLC", (3, 2), (0, 1, 3))
        self.check_neither("RLLC", (3, 2), (-1, 1, 2))
        self.check_neither("RLLC", (3, 2), (False, 1, 2))
        self.check_neither("RLLC", (3, 2), (0, True, 2))

    def test_negative_entries(self):
        # The sums are right, only the signs are not.
        self.check_neither("RLC", (8, 5), (-3, -5))
        self.check_neither("RLC", (5, 3), (-5, -8))
        self.check_neither("RLC", (5, 3), (0, 0))
        self.check_neither("RLC", (3, 2), (-2, -3))
        self.check_neither("RC", (3, 2), (-1,))


class RightWeightsTest(WeightsCases):
    """Weights that the program returns, and what becomes of them by a change."""

    def samples(self):
        for code in SHORT[1:] + LONG + (TOP,):
            for fraction in FRACTIONS[::4] if len(code) < 20 else ((101, 100), (3, 2), (199, 100), (3, 1)):
                upper = upper_weights(code, fraction)
                yield code, fraction, upper if upper is not None else lower_weights(code, fraction)

    def check_as_defined(self, code, fraction, value):
        self.check_both(code, fraction, value, growths.are_upper(code, fraction, value),
                        growths.are_lower(code, fraction, value))

    def test_right_and_multiplied(self):
        for code, fraction, weights in self.samples():
            right = are_upper if growths.are_upper(code, fraction, weights) else are_lower
            other = are_lower if right is are_upper else are_upper
            for factor in (1, 2, 7, 10 ** 30, 10 ** 400):
                value = tuple(factor * weight for weight in weights)
                self.assertIs(right(code, fraction, value), True)
                self.assertIs(other(code, fraction, value), False)
            self.check_neither(code, fraction, tuple(-weight for weight in weights))

    def test_one_entry_changed(self):
        changed = 0
        for code, fraction, weights in self.samples():
            for place in range(0, len(weights), 1 if len(code) < 20 else 7):
                for entry in (weights[place] - 1, weights[place] + 1, 0, 1, 2 * weights[place], -weights[place]):
                    value = weights[:place] + (entry,) + weights[place + 1:]
                    self.check_as_defined(code, fraction, value)
                    changed += not (are_upper(code, fraction, value) or are_lower(code, fraction, value))
        self.assertGreater(changed, 1000)

    def test_one_less_at_the_bound(self):
        # Weights for which each sum is as near to its bound as integers can be.
        self.check_upper("RLC", (5, 3), (3, 5))
        self.check_neither("RLC", (5, 3), (2, 5))
        self.check_neither("RLC", (5, 3), (3, 4))
        self.check_lower("RLC", (8, 5), (5, 8))
        self.check_neither("RLC", (8, 5), (4, 8))
        self.check_neither("RLC", (8, 5), (5, 7))

    def test_other_shapes(self):
        for code, fraction, weights in self.samples():
            for value in (list(weights), weights + (1,), weights + (0,), (1,) + weights, weights[1:], weights[:-1], (),
                          (weights,), [weights], weights + weights, str(weights[0] % 1000), None):
                self.check_neither(code, fraction, value)

    def test_entries_of_any_value(self):
        wrong = [True, False, None, "1", "", (), (1,), [], [1], [[1]], nested(1, 8), -1, -HUGE]
        for code, fraction, weights in self.samples():
            for place in range(0, len(weights), 1 if len(code) < 10 else 13):
                for entry in wrong:
                    self.check_neither(code, fraction, weights[:place] + (entry,) + weights[place + 1:])

    def test_true_is_not_one(self):
        for code in ("RC", "RLC", "RLRC", TOP):
            ones = (1,) * (len(code) - 1)
            self.check_upper(code, (40, 1), ones)
            for entry in (True, False):
                self.check_neither(code, (40, 1), (entry,) * len(ones))
                self.check_neither(code, (40, 1), ones[:-1] + (entry,))

    def test_any_value(self):
        for place, value in enumerate(ANY_VALUES):
            with self.subTest(place=place):
                kept = copy.deepcopy(value)
                for code in ("C", "RC", "RLC", "RLRRC", TOP):
                    self.check_as_defined(code, (3, 2), value)
                self.assertEqual(value, kept)

    def test_weights_of_a_thousand_digits(self):
        # The entries are equal but for the last of a thousand digits.
        large = 10 ** 999
        self.check_upper("RLC", (2, 1), (large, large))
        self.check_neither("RLC", (2, 1), (large + 1, large))
        self.check_lower("RLC", (3, 2), (2 * large, 3 * large))
        self.check_neither("RLC", (3, 2), (2 * large + 1, 3 * large))


class WrongArgumentsTest(Cases):
    def test_not_admissible_first(self):
        for place, code in enumerate(NO_ADMISSIBLE_CODES):
            with self.subTest(place=place):
                for fraction in ((3, 2), (4, 2), (1, 1), None, "C"):
                    for value in ((1, 1), (), None):
                        self.check_raises(NotAdmissible, are_upper, code, fraction, value)
                        self.check_raises(NotAdmissible, are_lower, code, fraction, value)

    def test_invalid_fraction(self):
        for place, fraction in enumerate(NO_FRACTIONS):
            with self.subTest(place=place):
                for code, right in (("C", ()), ("RC", (1,)), ("RLC", (3, 5)), (TOP, (1,) * 39)):
                    for value in (right, list(right), None, "1", 0):
                        self.check_raises(InvalidFraction, are_upper, code, fraction, value)
                        self.check_raises(InvalidFraction, are_lower, code, fraction, value)
