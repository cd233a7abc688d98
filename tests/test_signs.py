from fractions import Fraction
from math import gcd

from humpcodes.cycles import count_laps
from humpcodes.errors import NotAdmissible
from humpcodes.signs import growth_signs, growth_value
from humpcodes.wrongs import InvalidFraction
from tests import reference
from tests import reference_growths as growths
from tests.support import Cases
from tests.values import HUGE, NO_ADMISSIBLE_CODES, NO_FRACTIONS

SHORT = reference.admissible_up_to(9)
LONG = reference.long_codes(40, 8) + reference.long_codes(39, 4) + reference.long_codes(20, 4)
POWERS = tuple(reference.product_of(["RC"] * number) for number in range(6))
TOP = "R" + "L" * 38 + "C"
FRACTIONS = growths.fractions_up_to(7, 3)


class GrowthSignsTest(Cases):
    def test_by_definition(self):
        for code in SHORT + LONG + POWERS + (TOP,):
            found = growth_signs(code)
            self.assertIs(type(found), tuple)
            self.assertTrue(all(type(sign) is int for sign in found))
            self.assertEqual(found, growths.growth_signs(code), code)

    def test_by_the_number_of_r(self):
        for code in SHORT + LONG:
            signs = growth_signs(code)
            self.assertEqual(len(signs), len(code))
            for index, sign in enumerate(signs):
                self.assertEqual(sign, (-1) ** code[:index].count("R"))

    def test_known_signs(self):
        self.assertEqual(growth_signs("C"), (1,))
        self.assertEqual(growth_signs("RC"), (1, -1))
        self.assertEqual(growth_signs("RLC"), (1, -1, -1))
        self.assertEqual(growth_signs("RLRC"), (1, -1, -1, 1))
        self.assertEqual(growth_signs("RLRRC"), (1, -1, -1, 1, -1))
        self.assertEqual(growth_signs(TOP), (1,) + (-1,) * 39)

    def test_not_admissible(self):
        self.check_all_raise(NotAdmissible, growth_signs, NO_ADMISSIBLE_CODES)


class GrowthValueTest(Cases):
    def check_value(self, code, fraction):
        found = growth_value(code, fraction)
        expected = growths.growth_value(code, Fraction(*fraction))
        self.assertEqual(found, growths.pair(expected), (code, fraction))
        self.assertEqual([type(found)] + [type(entry) for entry in found], [tuple, int, int])
        self.assertGreaterEqual(found[1], 1)
        self.assertEqual(gcd(found[0], found[1]), 1)
        return found[0]

    def test_by_definition(self):
        seen = {-1: 0, 1: 0}
        for code in SHORT:
            for fraction in FRACTIONS + [(101, 100), (10, 1)]:
                value = self.check_value(code, fraction)
                # The first and the last coefficient are 1 or -1, so the value is not 0.
                seen[1 if value > 0 else -1] += 1
        self.assertGreater(min(seen.values()), 100)

    def test_long_codes(self):
        for code in LONG + POWERS + (TOP,):
            for fraction in FRACTIONS[::4] + [(10 ** 12 + 1, 10 ** 12), (10 ** 14 - 1, 10 ** 12), (10 ** 30, 7)]:
                self.check_value(code, fraction)

    def test_large_numbers(self):
        for code in ("C", "RC", "RLC", "RLRRRC", LONG[0]):
            for fraction in ((10 ** 999 + 1, 10 ** 12), (10 ** 300 + 1, 10 ** 300), (HUGE, 7)):
                self.assertEqual(growth_value(code, fraction) == growths.pair(
                    growths.growth_value(code, Fraction(*fraction))), True)

    def test_known_values(self):
        self.assertEqual(growth_value("C", (3, 2)), (1, 1))
        self.assertEqual(growth_value("C", (10 ** 40, 7)), (1, 1))
        self.assertEqual(growth_value("RC", (3, 2)), (1, 2))
        self.assertEqual(growth_value("RC", (2, 1)), (1, 1))
        self.assertEqual(growth_value("RLC", (3, 2)), (-1, 4))
        self.assertEqual(growth_value("RLC", (2, 1)), (1, 1))
        self.assertEqual(growth_value("RLC", (3, 1)), (5, 1))
        self.assertEqual(growth_value("RLRC", (3, 2)), (5, 8))

    def test_positive_below_the_growth(self):
        self.assertGreater(growth_value("RLLRLRRLC", (11, 10))[0], 0)
        self.assertIs(growths.is_growth_less("RLLRLRRLC", Fraction(11, 10)), False)

    def test_what_the_value_tells(self):
        for code in SHORT:
            for fraction in FRACTIONS:
                less = growths.is_growth_less(code, Fraction(*fraction))
                value = growth_value(code, fraction)[0]
                if value < 0:
                    self.assertIs(less, False)
                if less:
                    self.assertGreater(value, 0)

    def test_growth_is_a_zero(self):
        for code in SHORT:
            low, high = growths.growth_within(code)
            if low > 1:
                self.assertLess(growth_value(code, growths.pair(low))[0], 0)
            self.assertGreater(growth_value(code, growths.pair(high))[0], 0)

    def test_values_can_be_handed_in_again(self):
        for code in LONG[:3]:
            fraction = growth_value(code, (10 ** 12, 3))
            self.assertGreater(fraction[0], fraction[1])
            self.assertEqual(growth_value("RLC", fraction) == growths.pair(
                growths.growth_value("RLC", Fraction(*fraction))), True)

    def test_not_admissible_first(self):
        for place, code in enumerate(NO_ADMISSIBLE_CODES):
            with self.subTest(place=place):
                for fraction in ((3, 2), (4, 2), (1, 1), None, "C"):
                    self.check_raises(NotAdmissible, growth_value, code, fraction)

    def test_invalid_fraction(self):
        for place, fraction in enumerate(NO_FRACTIONS):
            with self.subTest(place=place):
                for code in ("C", "RC", "RLC", TOP):
                    self.check_raises(InvalidFraction, growth_value, code, fraction)


class SumsOfLapsTest(Cases):
    def check_sum(self, code, least):
        size = len(code)
        total = sum(sign * count_laps(code, least + size - 1 - index)
                    for index, sign in enumerate(growth_signs(code)))
        self.assertEqual(total, 0, (code, least))

    def test_small_codes(self):
        for code in reference.admissible_up_to(7)[1:]:
            for least in range(len(code), len(code) + 6):
                self.check_sum(code, least)
            self.check_sum(code, 61 - len(code))

    def test_long_codes(self):
        for code in reference.long_codes(20, 3) + reference.long_codes(12, 3) + POWERS[3:5]:
            for least in (len(code), len(code) + 1, 61 - len(code)):
                self.check_sum(code, least)

    def test_thirty_letters(self):
        for code in reference.long_codes(30, 3):
            self.check_sum(code, 30)
            self.check_sum(code, 31)
