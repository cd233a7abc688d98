from humpcodes.errors import InvalidPeriod, NotAdmissible, TooMany
from humpcodes.listing import codes_of_period, codes_up_to, count_codes, next_code
from tests import reference
from tests.support import Cases
from tests.values import HUGE, NO_ADMISSIBLE_CODES, NO_PERIODS

OVER_FORTY = NO_PERIODS + [41, 42, 100, 1000, 10 ** 30, HUGE]


class CountCodesTest(Cases):
    def test_small_periods_by_listing(self):
        for period in range(1, 15):
            codes = [code for code in reference.all_codes(period) if reference.is_admissible(code)]
            self.assertEqual(count_codes(period), len(codes), period)

    def test_known_numbers(self):
        numbers = [1, 1, 1, 2, 3, 5, 9, 16, 28, 51, 93, 170, 315, 585, 1091, 2048]
        self.assertEqual([count_codes(period) for period in range(1, 17)], numbers)

    def test_strings_are_counted_by_their_least_parts(self):
        # Point 7 turned around: the sum over the odd divisors d of n of
        # 2 n / d times the number for n / d is 2 to the power n.
        counts = {period: count_codes(period) for period in range(1, 1001)}
        for period in range(1, 1001):
            parts = [period // divisor for divisor in range(1, period + 1, 2) if period % divisor == 0]
            self.assertEqual(sum(2 * part * counts[part] for part in parts), 2 ** period, period)

    def test_one_thousand(self):
        # The odd divisors of 1000 without the square of a prime are 1 and 5.
        self.assertEqual(count_codes(1000), (2 ** 1000 - 2 ** 200) // 2000)

    def test_result_is_an_integer(self):
        for period in (1, 2, 12, 105, 1000):
            self.assertIs(type(count_codes(period)), int)

    def test_invalid_period(self):
        self.check_all_raise(InvalidPeriod, count_codes, NO_PERIODS + [1001, 1002, 2000, 10 ** 30, HUGE])


class CodesTest(Cases):
    def test_codes_of_period(self):
        for period in range(1, 13):
            self.assertEqual(codes_of_period(period), list(reference.admissible_of(period)), period)

    def test_codes_up_to(self):
        for period in range(1, 13):
            self.assertEqual(codes_up_to(period), list(reference.admissible_up_to(period)), period)

    def test_numbers_agree(self):
        for period in range(1, 13):
            self.assertEqual(len(codes_of_period(period)), count_codes(period), period)

    def test_new_lists(self):
        for period in (1, 5, 12):
            self.check_new_list(codes_of_period, period)
            self.check_new_list(codes_up_to, period)

    def test_lists_of_each_other_are_not_shared(self):
        codes_up_to(4).clear()
        codes_of_period(4).append("C")
        self.assertEqual(codes_of_period(4), ["RLRC", "RLLC"])
        self.assertEqual(codes_up_to(3), ["C", "RC", "RLC"])
        self.assertEqual(next_code("RLRC", 4), "RLC")

    def test_too_many(self):
        self.check_all_raise(TooMany, codes_of_period, list(range(13, 41)))
        self.check_all_raise(TooMany, codes_up_to, list(range(13, 41)))

    def test_invalid_period(self):
        self.check_all_raise(InvalidPeriod, codes_of_period, OVER_FORTY)
        self.check_all_raise(InvalidPeriod, codes_up_to, OVER_FORTY)


class NextCodeTest(Cases):
    def check_next(self, code, period):
        greater = [other for other in reference.admissible_up_to(period) if reference.compare(other, code) > 0]
        self.assertEqual(next_code(code, period), greater[0] if greater else None, (code, period))

    def test_small_codes(self):
        for code in reference.admissible_up_to(8):
            for period in range(1, 10):
                self.check_next(code, period)

    def test_each_code_of_the_list_leads_to_the_following_one(self):
        codes = reference.admissible_up_to(12)
        for code, following in zip(codes, codes[1:] + (None,)):
            self.assertEqual(next_code(code, 12), following)

    def test_codes_of_long_periods(self):
        for length in (13, 20, 39, 40):
            for code in reference.long_codes(length):
                for period in (1, 2, 3, 7, 12):
                    self.check_next(code, period)

    def test_last_code(self):
        for period in range(2, 13):
            self.assertIsNone(next_code("R" + "L" * (period - 2) + "C", period))
            self.assertIsNone(next_code("R" + "L" * 38 + "C", period))
        self.assertIsNone(next_code("C", 1))
        self.assertIsNone(next_code("RLC", 1))
        self.assertEqual(next_code("C", 2), "RC")

    def test_not_admissible(self):
        for place, value in enumerate(NO_ADMISSIBLE_CODES):
            with self.subTest(place=place):
                self.check_raises(NotAdmissible, next_code, value, 5)
                self.check_raises(NotAdmissible, next_code, value, 0)
                self.check_raises(NotAdmissible, next_code, value, None)
                self.check_raises(NotAdmissible, next_code, value, 13)

    def test_invalid_period(self):
        for place, period in enumerate(OVER_FORTY):
            with self.subTest(place=place):
                self.check_raises(InvalidPeriod, next_code, "RLC", period)
                self.check_raises(InvalidPeriod, next_code, "R" + "L" * 38 + "C", period)

    def test_too_many(self):
        for period in range(13, 41):
            self.check_raises(TooMany, next_code, "RLC", period)
            self.check_raises(TooMany, next_code, "R" + "L" * 38 + "C", period)
