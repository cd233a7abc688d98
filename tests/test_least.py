from humpcodes.errors import InvalidPeriod, NotAdmissible
from humpcodes.least import first_period, greatest_code, has_period, least_code, precedes
from tests import reference
from tests.support import Cases
from tests.values import HUGE, NO_ADMISSIBLE_CODES, NO_PERIODS

PERIODS = list(range(1, 130))
LEAST = {period: reference.least_code(period) for period in PERIODS}
OTHER_CODES = [
    reference.product_of(parts) for parts in (
        ["RC"] * 2, ["RC"] * 3, ["RC"] * 4, ["RC"] * 5, ["RC", "RLC"], ["RC", "RC", "RLC"], ["RC", "RC", "RC", "RLC"],
        ["RC", "RC", "RLRRC"], ["RC", "RC", "RC", "RLRRC"], ["RC", "RLLC"], ["RC", "RLLRC"], ["RLC", "RC"],
        ["RLRRC", "RC", "RC"], ["RC", "RLRRC", "RC"], ["RC", "RC", "RLC", "RLC"], ["RC", "RLRRRRRRC"],
    )
]


class LeastCodeTest(Cases):
    def test_every_period(self):
        for period in range(1, 41):
            self.assertEqual(least_code(period), LEAST[period])
            self.assertEqual(len(least_code(period)), period)

    def test_known_codes(self):
        self.assertEqual([least_code(period) for period in range(1, 9)], [
            "C", "RC", "RLC", "RLRC", "RLRRC", "RLRRRC", "RLRRRRC", "RLRRRLRC"])
        self.assertEqual(least_code(39), "RL" + "R" * 36 + "C")
        self.assertEqual(least_code(12), "RLRRRLRLRLRC")

    def test_smallest_of_all(self):
        for period in range(1, 13):
            self.assertEqual(least_code(period), reference.admissible_of(period)[0])

    def test_long_codes_are_not_less(self):
        for period in range(13, 41):
            self.assertTrue(reference.is_admissible(least_code(period)))
            for code in reference.long_codes(period):
                self.assertLessEqual(reference.compare(least_code(period), code), 0)
                self.assertGreaterEqual(reference.compare(greatest_code(period), code), 0)

    def test_greatest_codes(self):
        self.assertEqual(greatest_code(1), "C")
        self.assertEqual(greatest_code(2), "RC")
        self.assertEqual(greatest_code(3), "RLC")
        for period in range(2, 41):
            self.assertEqual(greatest_code(period), "R" + "L" * (period - 2) + "C")
        for period in range(1, 13):
            self.assertEqual(greatest_code(period), reference.admissible_of(period)[-1])

    def test_invalid_period(self):
        wrong = NO_PERIODS + [41, 42, 80, 1000, 10 ** 30, HUGE]
        self.check_all_raise(InvalidPeriod, least_code, wrong)
        self.check_all_raise(InvalidPeriod, greatest_code, wrong)


class PrecedesTest(Cases):
    def test_by_least_codes(self):
        for first in PERIODS[:70]:
            for second in PERIODS[:70]:
                expected = reference.compare(LEAST[first], LEAST[second]) > 0
                self.assertIs(precedes(first, second), expected, (first, second))

    def check_ascending(self, periods):
        for place, first in enumerate(periods):
            for other, second in enumerate(periods):
                self.assertIs(precedes(first, second), place < other, (place, other))

    def test_known_order(self):
        self.check_ascending([3, 5, 7, 9, 101, 6, 10, 14, 202, 12, 20, 28, 24, 40, 48, 64, 32, 16, 8, 4, 2, 1])

    def test_very_large_integers(self):
        odd, power = 10 ** 40 + 1, 2 ** 200
        self.check_ascending([
            3, odd, odd + 2, 9 * odd, 6, 2 * odd, 2 * (odd + 2), 4 * odd, 3 * power, odd * power, 5 * power * 2,
            2 * odd * power, power * 2, power, power // 2, 4, 2, 1])

    def test_enormous_integers(self):
        power = 2 ** 20000
        self.check_ascending([3, power - 1, power + 1, 2 * (power - 1), 3 * power, power, power // 2, 1])
        self.assertIs(precedes(HUGE + 1, HUGE), True)

    def test_equal_integers(self):
        for number in (1, 2, 3, 4, 6, 7, 12, 64, 10 ** 30, 2 ** 100, HUGE, HUGE + 1):
            self.assertIs(precedes(number, number), False)

    def test_invalid_period(self):
        for place, value in enumerate(NO_PERIODS):
            with self.subTest(place=place):
                for number in (1, 3, 8, 10 ** 30):
                    self.check_raises(InvalidPeriod, precedes, value, number)
                    self.check_raises(InvalidPeriod, precedes, number, value)
                self.check_raises(InvalidPeriod, precedes, value, value)


class PeriodsTest(Cases):
    def check_periods(self, code):
        """The periods of a code are those whose least code is not greater than the code."""
        having = [period for period in PERIODS if reference.compare(LEAST[period], code) <= 0]
        first = first_period(code)
        self.assertIn(first, having, code)
        for period in PERIODS:
            self.assertIs(has_period(code, period), period in having, (code, period))
            if period in having and period != first:
                self.assertIs(precedes(first, period), True, (code, period))

    def test_small_codes(self):
        for code in reference.admissible_up_to(9):
            self.check_periods(code)

    def test_long_codes(self):
        for period in (19, 32, 39, 40):
            for code in reference.long_codes(period):
                self.check_periods(code)

    def test_least_codes(self):
        for period in range(1, 41):
            self.assertEqual(first_period(LEAST[period]), period)
            self.check_periods(LEAST[period])

    def test_products_with_rc(self):
        for code in OTHER_CODES:
            self.check_periods(code)
        for code in reference.admissible_up_to(7):
            self.assertEqual(first_period(reference.product("RC", code)), 2 * first_period(code))
            self.assertEqual(first_period(reference.product(reference.product("RC", "RC"), code)),
                             4 * first_period(code))

    def test_powers_of_rc(self):
        for exponent in range(6):
            code = reference.product_of(["RC"] * exponent)
            self.assertEqual(first_period(code), 2 ** exponent)
            for other in range(10):
                self.assertIs(has_period(code, 2 ** other), other <= exponent)
                self.assertIs(has_period(code, 3 * 2 ** other), False)

    def test_codes_that_leave_late(self):
        # These go on with L where RLRRR.. goes on with R.
        for length in range(3, 39, 2):
            code = LEAST[length][:-1] + "LRC"
            self.assertEqual(first_period(code), length)
            self.check_periods(code)

    def test_known_first_periods(self):
        self.assertEqual(first_period("C"), 1)
        self.assertEqual(first_period("RC"), 2)
        self.assertEqual(first_period("RLRC"), 4)
        self.assertEqual(first_period("RLC"), 3)
        self.assertEqual(first_period("RLLRLC"), 3)
        self.assertEqual(first_period("RLRRRC"), 6)
        self.assertEqual(first_period("RLRRLRC"), 5)
        self.assertEqual(first_period("R" + "L" * 38 + "C"), 3)

    def test_large_periods(self):
        odd, power = 10 ** 40 + 1, 2 ** 300
        for period in (odd, odd * power, power, 2 ** 20000, HUGE, HUGE + 1):
            self.assertIs(has_period("RLC", period), True)
            self.assertIs(has_period("C", period), False)
            self.assertIs(has_period(OTHER_CODES[3], period), False)
        self.assertIs(has_period("RLRRRC", odd), False)
        self.assertIs(has_period("RLRRRC", 2 * odd), True)
        self.assertIs(has_period("RLRRRC", power), True)

    def test_not_admissible(self):
        self.check_all_raise(NotAdmissible, first_period, NO_ADMISSIBLE_CODES)
        for place, value in enumerate(NO_ADMISSIBLE_CODES):
            with self.subTest(place=place):
                for period in (1, 3, 0, None, True, "3"):
                    self.check_raises(NotAdmissible, has_period, value, period)

    def test_invalid_period(self):
        for place, period in enumerate(NO_PERIODS):
            with self.subTest(place=place):
                self.check_raises(InvalidPeriod, has_period, "RLC", period)
                self.check_raises(InvalidPeriod, has_period, "C", period)
