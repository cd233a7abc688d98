import itertools
from fractions import Fraction

from humpcodes.errors import InvalidPeriod, NotAdmissible, TooMany
from humpcodes.floors import codes_beside, growth_floor, simplest_fraction
from humpcodes.growths import lower_weights, upper_weights
from humpcodes.tents import compare_growth
from humpcodes.wrongs import InvalidFraction, InvalidSize, SameGrowth
from tests import reference
from tests import reference_growths as growths
from tests.support import Cases
from tests.values import HUGE, NO_ADMISSIBLE_CODES, NO_FRACTIONS, NO_PERIODS, NO_SIZES

SHORT = reference.admissible_up_to(8)
LONG = reference.long_codes(40, 8) + reference.long_codes(39, 4) + reference.long_codes(20, 4)
POWERS = tuple(reference.product_of(["RC"] * number) for number in range(6))
TOP = "R" + "L" * 38 + "C"
SIZES = (1, 2, 3, 7, 10, 1000, 65536, 10 ** 9 + 7, 10 ** 12 - 1, 10 ** 12)


def beginnings(fraction):
    """The admissible codes of 36 to 40 letters that begin as the letters of a tent map: their growths are close."""
    letters = growths.scaled_letters(fraction[0], fraction[1], 40)
    return [letters[:size - 1] + "C" for size in range(36, 41) if reference.is_admissible(letters[:size - 1] + "C")]


CLOSE = tuple(code for fraction in ((3, 2), (5, 3), (8, 5), (13, 10), (19, 10), (7, 4), (101, 100), (2, 1))
              for code in beginnings(fraction))


class GrowthFloorTest(Cases):
    def check_floor(self, code, size):
        found = growth_floor(code, size)
        self.assertIs(type(found), int)
        self.assertEqual(found, growths.floor(code, size), (code, size))
        return found

    def test_small_codes(self):
        for code in SHORT:
            for size in SIZES:
                self.check_floor(code, size)

    def test_by_the_matrix(self):
        for code in reference.admissible_up_to(7):
            for size in (1, 2, 5, 10, 60):
                found = growth_floor(code, size)
                self.assertTrue(growths.is_growth_less(code, Fraction(found + 1, size)))
                if found > size:
                    self.assertFalse(growths.is_growth_less(code, Fraction(found, size)))

    def test_long_codes(self):
        for code in LONG + CLOSE + (TOP,):
            for size in SIZES:
                self.check_floor(code, size)

    def test_against_the_weights(self):
        for code in SHORT[::3] + LONG[::3] + CLOSE[::3] + (TOP,):
            for size in (1, 10, 1000, 10 ** 12):
                found = growth_floor(code, size)
                self.assertIsNotNone(upper_weights(code, growths.pair(Fraction(found + 1, size))))
                if found > size:
                    self.assertIsNotNone(lower_weights(code, growths.pair(Fraction(found, size))))

    def test_growth_one(self):
        for code in POWERS:
            for size in SIZES:
                self.assertEqual(growth_floor(code, size), size)

    def test_size_one(self):
        for code in SHORT + LONG + CLOSE + POWERS + (TOP,):
            self.assertEqual(growth_floor(code, 1), 1)

    def test_known_ones(self):
        self.assertEqual(growth_floor("RLC", 10), 16)
        self.assertEqual(growth_floor("RLC", 1000), 1618)
        self.assertEqual(growth_floor("RLC", 10 ** 12), 1618033988749)
        self.assertEqual(growth_floor("RLRRRC", 10 ** 12), 1272019649514)
        self.assertEqual(growth_floor("RLLC", 10 ** 12), 1839286755214)
        self.assertEqual(growth_floor("RLRC", 7), 7)
        self.assertEqual(growth_floor(TOP, 10 ** 12), 1999999999998)
        self.assertEqual(growth_floor(TOP, 10 ** 11), 199999999999)

    def test_close_growths(self):
        floors = [growth_floor("R" + "L" * (size - 2) + "C", 10 ** 12) for size in range(3, 41)]
        self.assertEqual(floors, sorted(floors))
        self.assertEqual(floors[-3:], [1999999999992, 1999999999996, 1999999999998])

    def test_ascending(self):
        floors = [growth_floor(code, 10 ** 12) for code in reference.admissible_up_to(10)]
        self.assertEqual(floors, sorted(floors))

    def test_not_admissible_first(self):
        for place, code in enumerate(NO_ADMISSIBLE_CODES):
            with self.subTest(place=place):
                for size in (1, 10, 0, 10 ** 12 + 1, None, True):
                    self.check_raises(NotAdmissible, growth_floor, code, size)

    def test_invalid_size(self):
        for place, size in enumerate(NO_SIZES):
            with self.subTest(place=place):
                for code in ("C", "RC", "RLC", TOP):
                    self.check_raises(InvalidSize, growth_floor, code, size)


class SimplestFractionTest(Cases):
    def check_pair(self, first, second):
        """The fraction is between, and no other one with its denominator or a less one is."""
        low, high = sorted([first, second], key=growths.growth)
        found = simplest_fraction(first, second)
        self.assertEqual(simplest_fraction(second, first), found)
        self.assertEqual([type(found)] + [type(entry) for entry in found], [tuple, int, int])
        self.assertTrue(self.is_inside(found, low, high), (first, second))
        # Each fraction between the parents has a greater denominator.
        for parent in growths.parents(found):
            self.assertFalse(self.is_inside(parent, low, high), (first, second))
        return found

    def is_inside(self, fraction, low, high):
        a, b = fraction
        if b == 0 or a <= b or a >= 2 * b:
            return False
        return compare_growth(low, fraction) == -1 and compare_growth(high, fraction) == 1

    def test_small_codes(self):
        for first in SHORT:
            for second in SHORT[::3]:
                if growths.growth(first) != growths.growth(second):
                    self.check_pair(first, second)

    def test_by_trying(self):
        for first, second in itertools.combinations(reference.admissible_up_to(7), 2):
            if growths.growth(first) != growths.growth(second):
                low, high = [Fraction(growths.growth(code), growths.SCALE) for code in (first, second)]
                self.assertEqual(simplest_fraction(first, second), growths.simplest(low, high), (first, second))

    def test_next_codes(self):
        codes = reference.admissible_up_to(12)
        for one, other in zip(codes, codes[1:]):
            if growths.growth(one) == growths.growth(other):
                self.check_raises(SameGrowth, simplest_fraction, one, other)
            else:
                self.check_pair(one, other)

    def test_long_codes(self):
        codes = LONG + CLOSE[::2] + (TOP, "C", "RLC") + POWERS[5:]
        for first, second in itertools.combinations(codes, 2):
            if growths.growth(first) == growths.growth(second):
                self.check_raises(SameGrowth, simplest_fraction, first, second)
            else:
                self.check_pair(first, second)

    def test_very_many_steps_on_one_side(self):
        # Close to 2 the lower fraction is replaced again and again, close to 1 the upper one.
        for size in (20, 30, 38, 39):
            one, other = "R" + "L" * (size - 2) + "C", "R" + "L" * (size - 1) + "C"
            over, under = self.check_pair(one, other)
            self.assertEqual(over, 2 * under - 1)
            self.assertGreater(under, 2 ** (size - 2))
        least = min((code for code in SHORT + LONG + CLOSE if growths.growth(code) > growths.SCALE), key=growths.growth)
        for code in POWERS:
            over, under = self.check_pair(code, least)
            self.assertEqual(over, under + 1)

    def test_very_many_steps_close_to_a_fraction(self):
        longest = 0
        for fraction in ((3, 2), (5, 3), (8, 5), (13, 10), (19, 10), (7, 4)):
            codes = beginnings(fraction)
            below = [code for code in codes if compare_growth(code, fraction) < 0]
            above = [code for code in codes if compare_growth(code, fraction) > 0]
            for first, second in itertools.combinations(codes, 2):
                if growths.growth(first) != growths.growth(second):
                    longest = max(longest, self.check_pair(first, second)[1])
            for first in below:
                for second in above:
                    self.assertEqual(self.check_pair(first, second), fraction)
        self.assertGreater(longest, 10 ** 6)

    def test_known_ones(self):
        self.assertEqual(simplest_fraction("RLC", "RC"), (3, 2))
        self.assertEqual(simplest_fraction("RLC", "RLLC"), (5, 3))
        self.assertEqual(simplest_fraction("C", TOP), (3, 2))
        self.assertEqual(simplest_fraction("C", "RLRRRC"), (5, 4))

    def test_same_growth(self):
        for first in SHORT:
            self.check_raises(SameGrowth, simplest_fraction, first, first)
            for second in SHORT:
                if growths.growth(first) == growths.growth(second):
                    self.check_raises(SameGrowth, simplest_fraction, first, second)
        for first in POWERS:
            for second in POWERS:
                self.check_raises(SameGrowth, simplest_fraction, first, second)
        for rest in ("RC", "RLC", "RLRRC", POWERS[3]):
            self.check_raises(SameGrowth, simplest_fraction, "RLLC", reference.product("RLLC", rest))

    def test_not_admissible(self):
        for place, value in enumerate(NO_ADMISSIBLE_CODES):
            with self.subTest(place=place):
                for code in ("C", "RLC", None, "RRC"):
                    self.check_raises(NotAdmissible, simplest_fraction, value, code)
                    self.check_raises(NotAdmissible, simplest_fraction, code, value)


class CodesBesideTest(Cases):
    def check_one(self, fraction, period):
        codes = reference.admissible_up_to(period)
        bound = Fraction(*fraction) * growths.SCALE
        # The growth is not a fraction other than 1, so its digits tell the side.
        less = [code for code in codes if growths.growth(code) < bound]
        greater = [code for code in codes if growths.growth(code) >= bound]
        found = codes_beside(fraction, period)
        self.assertIs(type(found), tuple)
        self.assertEqual(found, (less[-1], greater[0] if greater else None), (fraction, period))
        return found

    def test_all_periods(self):
        for period in range(1, 13):
            for fraction in growths.fractions_up_to(7, 2) + [(101, 100), (199, 100), (10 ** 12 + 1, 10 ** 12)]:
                self.check_one(fraction, period)

    def test_close_fractions(self):
        for code in reference.admissible_up_to(8):
            for more in (0, 1):
                fraction = growths.pair(Fraction(growths.floor(code, 10 ** 12) + more, 10 ** 12))
                if fraction[0] > fraction[1]:
                    found = self.check_one(fraction, 8)
                    self.assertEqual(growths.growth(found[1 - more]), growths.growth(code))

    def test_above_every_growth(self):
        for period in range(1, 13):
            top = reference.admissible_up_to(period)[-1]
            for fraction in ((2, 1), (5, 2), (10 ** 12, 1), (HUGE, 7), (4095, 2048)):
                self.assertEqual(codes_beside(fraction, period), (top, None))

    def test_just_above_one(self):
        # There is always a code on the first side: C has growth 1.
        expected = ["C", "RC", "RC"] + ["RLRC"] * 4 + [POWERS[3]] * 5
        for period in range(1, 13):
            below, above = self.check_one((10 ** 12 + 1, 10 ** 12), period)
            self.assertEqual(below, expected[period - 1])
            self.assertIs(above is None, period < 3)
        self.assertEqual(codes_beside((HUGE + 1, HUGE), 3), ("RC", "RLC"))
        self.assertEqual(codes_beside((101, 100), 1), ("C", None))
        self.assertEqual(codes_beside((101, 100), 2), ("RC", None))

    def test_known_ones(self):
        self.assertEqual(codes_beside((3, 2), 4), ("RLRC", "RLC"))
        self.assertEqual(codes_beside((2, 1), 3), ("RLC", None))
        self.assertEqual(codes_beside((17, 10), 4), ("RLC", "RLLC"))

    def test_fractions_that_are_returned(self):
        for first, second in (("RLC", "RLLC"), (TOP, TOP[:-2] + "C"), (CLOSE[0], CLOSE[1])):
            self.check_one(simplest_fraction(first, second), 9)

    def test_invalid_fraction_first(self):
        for place, fraction in enumerate(NO_FRACTIONS):
            with self.subTest(place=place):
                for period in (1, 12, 13, 40, 41, 0, None, True):
                    self.check_raises(InvalidFraction, codes_beside, fraction, period)

    def test_invalid_period(self):
        for place, period in enumerate(NO_PERIODS + [41, 42, 1000, 10 ** 30, HUGE]):
            with self.subTest(place=place):
                for fraction in ((3, 2), (5, 1)):
                    self.check_raises(InvalidPeriod, codes_beside, fraction, period)

    def test_too_many(self):
        for period in range(13, 41):
            for fraction in ((3, 2), (5, 1)):
                self.check_raises(TooMany, codes_beside, fraction, period)
