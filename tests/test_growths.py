from fractions import Fraction

from humpcodes.cycles import count_laps
from humpcodes.errors import NotAdmissible
from humpcodes.growths import lower_weights, upper_weights
from humpcodes.pieces import are_lower, are_upper
from humpcodes.wrongs import InvalidFraction
from tests import reference
from tests import reference_growths as growths
from tests.support import Cases
from tests.values import HUGE, NO_ADMISSIBLE_CODES, NO_FRACTIONS

SHORT = reference.admissible_up_to(8)
LONG = reference.long_codes(40, 8) + reference.long_codes(39, 4) + reference.long_codes(20, 4)
POWERS = tuple(reference.product_of(["RC"] * number) for number in range(6))
PRODUCTS = ("RLRRRC", "RLLRLC") + tuple(
    reference.product_of(parts) for parts in (
        ["RC", "RC", "RLC"], ["RC", "RLRRC"], ["RLC", "RLC"], ["RC"] * 3 + ["RLLRC"], ["RC", "RLC", "RC", "RC"],
        ["RLC", "RC", "RLLC"], ["RC"] * 3 + ["RLC"], ["RC", "RLLLC", "RC", "RC"]))
TOP = "R" + "L" * 38 + "C"
FRACTIONS = growths.fractions_up_to(7, 3)
CLOSE_TO_ONE = [(10 ** 12 + 1, 10 ** 12), (1001, 1000), (101, 100), (11, 10)]
FOURTEEN_DIGITS = [
    (10 ** 14 - 1, 10 ** 14 - 2), (10 ** 14 - 2, 10 ** 14 - 3), (10 ** 14 - 1, 5 * 10 ** 13),
    (16180339887499, 10 ** 13), (14142135623731, 10 ** 13), (19999999999999, 10 ** 13), (10 ** 14 - 1, 10 ** 13),
    (10 ** 14 - 1, 7), (10 ** 14 - 1, 1),
]


class WeightsCases(Cases):
    def check_one(self, code, fraction):
        """Exactly one kind of weights is returned, and they are right; tell whether it is the upper one."""
        upper, lower = upper_weights(code, fraction), lower_weights(code, fraction)
        self.assertNotEqual(upper is None, lower is None, (code, fraction))
        if upper is not None:
            self.assertTrue(growths.are_upper(code, fraction, upper), (code, fraction))
            self.assertIs(are_upper(code, fraction, upper), True)
            self.assertIs(are_lower(code, fraction, upper), False)
        else:
            self.assertTrue(growths.are_lower(code, fraction, lower), (code, fraction))
            self.assertIs(are_lower(code, fraction, lower), True)
            self.assertIs(are_upper(code, fraction, lower), False)
        return upper is not None


class OneKindTest(WeightsCases):
    def test_all_small_codes(self):
        seen = {True: 0, False: 0}
        for code in SHORT:
            for fraction in FRACTIONS + CLOSE_TO_ONE + [(100, 1), (10 ** 12, 1), (9, 2)]:
                is_upper = self.check_one(code, fraction)
                self.assertIs(is_upper, growths.is_growth_less(code, Fraction(*fraction)), (code, fraction))
                seen[is_upper] += 1
        self.assertGreater(min(seen.values()), 500)

    def test_codes_of_nine_and_ten_letters(self):
        for code in reference.admissible_of(9) + reference.admissible_of(10):
            for fraction in ((3, 2), (7, 4), (11, 6), (9, 8)):
                self.assertIs(self.check_one(code, fraction), growths.is_growth_less(code, Fraction(*fraction)))

    def test_near_the_growth(self):
        for code in SHORT:
            low, high = growths.growth_within(code)
            self.assertIs(self.check_one(code, growths.pair(high)), True)
            if low > 1:
                self.assertIs(self.check_one(code, growths.pair(low)), False)

    def test_near_the_growth_of_long_codes(self):
        for code in LONG + PRODUCTS + POWERS + (TOP,):
            low, high = growths.rounded(code)
            self.assertIs(self.check_one(code, growths.pair(high)), True)
            if low > 1:
                self.assertIs(self.check_one(code, growths.pair(low)), False)
            else:
                self.assertIn(code, POWERS)

    def test_known_ones(self):
        self.assertIsNone(upper_weights("RLC", (8, 5)))
        self.assertIsNone(lower_weights("RLC", (5, 3)))
        # The growth of RLC is the golden ratio.
        for above in ((13, 8), (34, 21), (89, 55), (2, 1), (3, 1)):
            self.assertIsNone(lower_weights("RLC", above))
            self.assertEqual(len(upper_weights("RLC", above)), 2)
        for below in ((8, 5), (21, 13), (55, 34), (3, 2), (10 ** 12 + 1, 10 ** 12)):
            self.assertIsNone(upper_weights("RLC", below))
            self.assertEqual(len(lower_weights("RLC", below)), 2)

    def test_greater_than_two(self):
        for code in SHORT + LONG + PRODUCTS + POWERS + (TOP,):
            for fraction in ((2, 1), (5, 2), (2 * 10 ** 12 + 1, 10 ** 12), (3, 1), (10 ** 12, 7), (7, 1)):
                self.assertIs(self.check_one(code, fraction), True)

    def test_just_above_one(self):
        for fraction in CLOSE_TO_ONE[:2]:
            for code in SHORT + LONG + PRODUCTS + POWERS + (TOP,):
                self.assertIs(self.check_one(code, fraction), code in POWERS)

    def test_growth_one(self):
        for code in POWERS:
            for fraction in FRACTIONS + CLOSE_TO_ONE:
                self.assertIs(self.check_one(code, fraction), True)
        self.assertIsNone(lower_weights("RC", (101, 100)))

    def test_where_adding_up_does_not_end(self):
        for fraction in FRACTIONS + CLOSE_TO_ONE:
            self.check_one("RLRRRC", fraction)
        # The growth is the square root of the golden ratio, 1.27201...
        self.assertIs(self.check_one("RLRRRC", (127202, 100001)), False)
        self.assertIs(self.check_one("RLRRRC", (12721, 10000)), True)
        self.assertIs(self.check_one("RLRRRC", (12719, 10000)), False)

    def test_forty_letters(self):
        for code in LONG + (TOP,):
            for fraction in ((101, 100), (5, 4), (141, 100), (3, 2), (17, 10), (19, 10), (199, 100), (5, 2)):
                less = growths.is_growth_less_by_letters(code, Fraction(*fraction))
                self.assertIs(self.check_one(code, fraction), less)

    def test_c(self):
        for fraction in FRACTIONS + CLOSE_TO_ONE + FOURTEEN_DIGITS:
            self.assertEqual(upper_weights("C", fraction), ())
            self.assertIsNone(lower_weights("C", fraction))


class FormTest(WeightsCases):
    def test_number_of_digits(self):
        limit = 10 ** 900
        for code in LONG + PRODUCTS + POWERS + (TOP,) + SHORT[::5]:
            for fraction in FOURTEEN_DIGITS:
                self.check_one(code, fraction)
                weights = upper_weights(code, fraction)
                if weights is None:
                    weights = lower_weights(code, fraction)
                self.assertTrue(all(weight < limit for weight in weights))

    def test_kinds_of_values(self):
        for code in SHORT:
            for fraction in FRACTIONS[::5]:
                for weights in (upper_weights(code, fraction), lower_weights(code, fraction)):
                    if weights is not None:
                        self.assertIs(type(weights), tuple)
                        self.assertEqual(len(weights), len(code) - 1)
                        self.assertTrue(all(type(weight) is int for weight in weights))

    def test_large_fractions(self):
        for code in ("C", "RC", "RLC", "RLRRRC", LONG[0], TOP):
            for fraction in ((HUGE + 1, HUGE), (2 * HUGE - 1, HUGE), (HUGE, 7)):
                upper, lower = upper_weights(code, fraction), lower_weights(code, fraction)
                self.assertIs((upper is None) != (lower is None), True)
                right = are_lower(code, fraction, lower) if upper is None else are_upper(code, fraction, upper)
                self.assertIs(right, True)


class LapsTest(Cases):
    """The bounds that weights tell of the laps."""

    STEPS = (1, 2, 3, 5, 10, 27, 59, 60)

    def check_bounds(self, code, laps, fraction):
        a, b = fraction
        upper, lower = upper_weights(code, fraction), lower_weights(code, fraction)
        for steps in self.STEPS:
            if upper is not None:
                self.assertLessEqual(laps[steps] * b ** steps * min(upper), sum(upper) * a ** steps)
            else:
                pieces = len(code) - 1
                self.assertGreaterEqual(laps[steps] * b ** steps * pieces * max(lower), sum(lower) * a ** steps)

    def check_code(self, code, fractions):
        laps = {steps: count_laps(code, steps) for steps in self.STEPS}
        for fraction in fractions:
            self.check_bounds(code, laps, fraction)

    def test_small_codes(self):
        for code in SHORT[1:]:
            low, high = growths.growth_within(code)
            near = [growths.pair(r) for r in (low, high) if r > 1]
            self.check_code(code, near + FRACTIONS[::6] + [(11, 10), (199, 100)])

    def test_long_codes(self):
        for code in LONG[::2] + PRODUCTS + POWERS[1:] + (TOP,):
            low, high = growths.rounded(code, 25)
            near = [growths.pair(r) for r in (low, high) if r > 1]
            self.check_code(code, near + [(11, 10), (3, 2), (9, 5)])

    def test_growth_is_the_limit(self):
        # Sixty steps tell the growth up to a factor that comes from the number of pieces.
        for code in SHORT[1:]:
            low, high = growths.growth_within(code)
            laps = count_laps(code, 60)
            self.assertGreaterEqual(laps * 60 ** len(code), low ** 60 / 2)
            self.assertLessEqual(laps, 60 ** len(code) * high ** 60)


class WrongArgumentsTest(Cases):
    def test_not_admissible_first(self):
        for place, code in enumerate(NO_ADMISSIBLE_CODES):
            with self.subTest(place=place):
                for fraction in ((3, 2), (4, 2), (1, 1), None, "C", (3, True)):
                    self.check_raises(NotAdmissible, upper_weights, code, fraction)
                    self.check_raises(NotAdmissible, lower_weights, code, fraction)

    def test_invalid_fraction(self):
        for place, fraction in enumerate(NO_FRACTIONS):
            with self.subTest(place=place):
                for code in ("C", "RC", "RLC", TOP):
                    self.check_raises(InvalidFraction, upper_weights, code, fraction)
                    self.check_raises(InvalidFraction, lower_weights, code, fraction)
