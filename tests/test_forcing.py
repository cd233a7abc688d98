from humpcodes.errors import InvalidPeriod, NotAdmissible, NotForced
from humpcodes.forcing import forces, periods_up_to, point_of_period, points_of_code, words_of
from humpcodes.strokes import image, itinerary, least_period
from tests import reference
from tests import reference_maps as maps
from tests.support import Cases
from tests.values import HUGE, NO_ADMISSIBLE_CODES, NO_PERIODS

CODES = reference.admissible_up_to(9)
LONG = reference.long_codes(40, 6) + reference.long_codes(39, 4) + reference.long_codes(20, 4)
POWERS = tuple(reference.product_of(["RC"] * number) for number in range(6))
TOP = "R" + "L" * 38 + "C"


class ForcesTest(Cases):
    def test_all_small_codes(self):
        for first in CODES + LONG:
            for second in CODES[::5] + LONG + POWERS:
                expected = reference.compare(second, first) <= 0
                self.assertIs(forces(first, second), expected, (first, second))
                self.assertIs(forces(second, first), first == second or not expected, (first, second))

    def test_equal_codes(self):
        for code in CODES + LONG:
            self.assertIs(forces(code, code), True)

    def test_c(self):
        for code in CODES[1:] + LONG:
            self.assertIs(forces(code, "C"), True)
            self.assertIs(forces("C", code), False)

    def test_products_with_rc(self):
        for code in CODES:
            double = reference.product(code, "RC")
            self.assertIs(forces(double, code), True)
            self.assertIs(forces(code, double), False)

    def test_not_admissible(self):
        for place, value in enumerate(NO_ADMISSIBLE_CODES):
            with self.subTest(place=place):
                self.check_raises(NotAdmissible, forces, value, "RLC")
                self.check_raises(NotAdmissible, forces, "RLC", value)
                self.check_raises(NotAdmissible, forces, value, value)


class WordsOfTest(Cases):
    def test_known_words(self):
        self.assertEqual(words_of("C"), ("L", "R"))
        self.assertEqual(words_of("RC"), ("RR", "RL"))
        self.assertEqual(words_of("RLRC"), ("RLRL", "RLRR"))
        self.assertEqual(words_of("RLLC"), ("RLLR", "RLLL"))

    def test_even_and_odd(self):
        for code in CODES + LONG:
            even, odd = words_of(code)
            self.assertEqual(sorted([even, odd]), sorted([code[:-1] + "L", code[:-1] + "R"]))
            self.assertEqual(even.count("R") % 2, 0)
            self.assertEqual(odd.count("R") % 2, 1)
            self.assertIs(type(words_of(code)), tuple)

    def test_not_admissible(self):
        self.check_all_raise(NotAdmissible, words_of, NO_ADMISSIBLE_CODES)


class PointsOfCodeTest(Cases):
    def check_word_point(self, code, point, word):
        x = maps.number(point)
        period = maps.word_period(word)
        path = maps.images(code, x, period)
        self.assertEqual(path[-1], x)
        self.assertEqual(len(set(path)), period)
        self.assertEqual(itinerary(code, point, 2 * len(word)), word * 2)

    def check_points(self, code, other):
        found = points_of_code(code, other)
        self.assertIs(type(found), tuple)
        even, odd = found
        letters = other[:-1] + "L", other[:-1] + "R"
        words = sorted(letters, key=lambda word: word.count("R") % 2)
        if other == "C":
            self.assertIsNone(even)
        else:
            self.check_word_point(code, even, words[0])
            self.assertNotEqual(even, odd)
        self.check_word_point(code, odd, words[1])

    def test_small_codes(self):
        for index, code in enumerate(CODES):
            for other in CODES[:index:3] + CODES[max(0, index - 2):index]:
                self.check_points(code, other)

    def test_words_by_closed_ways(self):
        codes = reference.admissible_up_to(6)
        for index, code in enumerate(codes):
            for other in codes[:index]:
                even, odd = points_of_code(code, other)
                for point, word in zip((even, odd), words_of(other)):
                    expected = maps.point_of_word(code, word)
                    self.assertEqual(point, None if expected is None else maps.pair(expected), (code, other))

    def test_long_codes(self):
        for code in LONG:
            for other in LONG + CODES[::20] + POWERS:
                if reference.compare(other, code) < 0:
                    self.check_points(code, other)

    def test_products(self):
        for code in CODES[:60] + LONG:
            if len(code) <= 20:
                self.check_points(reference.product(code, "RC"), code)
            if 2 <= len(code) <= 13:
                self.check_points(reference.product(code, "RLC"), code)
                self.check_points(reference.product(code, "RLC"), reference.product(code, "RC"))

    def test_other_code_c(self):
        for code in CODES[1:] + LONG:
            even, odd = points_of_code(code, "C")
            self.assertIsNone(even)
            self.assertEqual(image(code, odd), odd)

    def test_not_forced(self):
        for code in CODES + LONG:
            self.check_raises(NotForced, points_of_code, code, code)
            self.check_raises(NotForced, points_of_code, "C", code)
            if code != TOP:
                self.check_raises(NotForced, points_of_code, code, TOP)
        for code, other in zip(CODES, CODES[1:]):
            self.check_raises(NotForced, points_of_code, code, other)
        for code in CODES:
            self.check_raises(NotForced, points_of_code, code, reference.product(code, "RC"))

    def test_not_admissible_first(self):
        for place, value in enumerate(NO_ADMISSIBLE_CODES):
            with self.subTest(place=place):
                self.check_raises(NotAdmissible, points_of_code, value, "RLC")
                self.check_raises(NotAdmissible, points_of_code, "RLC", value)
                self.check_raises(NotAdmissible, points_of_code, "C", value)
                self.check_raises(NotAdmissible, points_of_code, value, value)


class PointOfPeriodTest(Cases):
    def check_point(self, code, period):
        least = reference.least_code(period)
        point = point_of_period(code, period)
        if reference.compare(least, code) > 0:
            self.assertIsNone(point, (code, period))
            return
        self.assertIs(type(point), tuple)
        path = maps.images(code, maps.number(point), period)
        self.assertEqual(path[-1], path[0], (code, period))
        self.assertEqual(len(set(path)), period, (code, period))
        if least == code:
            self.assertEqual(point, (len(code) - 1, 1))
        else:
            self.assertEqual(point, points_of_code(code, least)[1])
            start = least[:-1]
            odd = start + ("L" if start.count("R") % 2 == 1 else "R")
            self.assertEqual(maps.itinerary(code, path[0], 40), (odd * 40)[:40])

    def test_codes_beside_the_least_codes(self):
        for period in range(1, 41):
            least = reference.least_code(period)
            codes = {least, TOP, "C", "RC", "RLC", "RLRC"}
            if period <= 20:
                codes.add(reference.product(least, "RC"))
            if period > 1:
                codes.add("R" + "L" * (period - 2) + "C")
            for code in sorted(codes):
                self.check_point(code, period)

    def test_every_period_and_least_code(self):
        for one in range(1, 41):
            code = reference.least_code(one)
            for other in range(1, 41):
                self.check_point(code, other)

    def test_small_codes(self):
        for code in reference.admissible_up_to(7):
            for period in range(1, 13):
                self.check_point(code, period)

    def test_long_codes(self):
        for code in LONG + POWERS:
            for period in range(1, 41):
                self.check_point(code, period)

    def test_no_other_point_has_the_period(self):
        for code in reference.admissible_up_to(6):
            for period in range(1, 7):
                found = maps.cycles(code, period)
                self.assertIs(point_of_period(code, period) is None, found == [], (code, period))

    def test_known_points(self):
        self.assertEqual(point_of_period("C", 1), (0, 1))
        self.assertEqual(point_of_period("RC", 1), (1, 2))
        self.assertEqual(point_of_period("RC", 2), (1, 1))
        self.assertIsNone(point_of_period("C", 2))
        self.assertIsNone(point_of_period("RC", 3))
        self.assertEqual(point_of_period("RLC", 3), (2, 1))
        self.assertEqual(least_period("RLC", point_of_period("RLC", 40)), 40)

    def test_not_admissible(self):
        for place, value in enumerate(NO_ADMISSIBLE_CODES):
            with self.subTest(place=place):
                for period in (1, 5, 0, 41, True, None):
                    self.check_raises(NotAdmissible, point_of_period, value, period)

    def test_invalid_period(self):
        for place, period in enumerate(NO_PERIODS + [41, 42, 1000, 10 ** 30, HUGE]):
            with self.subTest(place=place):
                for code in ("C", "RLC", TOP):
                    self.check_raises(InvalidPeriod, point_of_period, code, period)


class PeriodsUpToTest(Cases):
    def test_small_codes_by_their_points(self):
        for code in reference.admissible_up_to(6):
            expected = [period for period in range(1, 7) if maps.cycles(code, period) != []]
            for bound in range(1, 7):
                self.assertEqual(periods_up_to(code, bound), [period for period in expected if period <= bound])

    def test_up_to_forty_by_the_least_codes(self):
        for code in CODES[::4] + LONG + POWERS + tuple(reference.least_code(period) for period in range(1, 41)):
            expected = [period for period in range(1, 41)
                        if reference.compare(reference.least_code(period), code) <= 0]
            self.assertEqual(periods_up_to(code, 40), expected, code)
            self.assertEqual(periods_up_to(code, 1), [1])
            self.assertEqual([period for period in range(1, 41) if point_of_period(code, period) is not None],
                             expected)

    def test_up_to_one_thousand_by_the_least_codes(self):
        # Least codes of any length, as the reference writes them.
        least = {period: reference.least_code(period) for period in range(1, 1001)}
        for code in CODES[::40] + LONG[:4] + POWERS + tuple(least[period] for period in range(1, 41)):
            expected = [period for period in range(1, 1001) if reference.compare(least[period], code) <= 0]
            self.assertEqual(periods_up_to(code, 1000), expected, code)

    def test_products_of_rc(self):
        for number, code in enumerate(POWERS):
            expected = [2 ** power for power in range(number + 1)]
            self.assertEqual(periods_up_to(code, 1000), expected)
            self.assertEqual(periods_up_to(code, 40), expected)
            self.assertEqual(periods_up_to(code, 7), [period for period in expected if period <= 7])

    def test_known_lists(self):
        self.assertEqual(periods_up_to("RLC", 1000), list(range(1, 1001)))
        self.assertEqual(periods_up_to(TOP, 1000), list(range(1, 1001)))
        self.assertEqual(periods_up_to("RLRRRC", 20), [1, 2, 4, 6, 8, 10, 12, 14, 16, 18, 20])

    def test_new_lists(self):
        for code in ("C", "RLC", "RLRRC"):
            for bound in (1, 40, 1000):
                self.check_new_list(periods_up_to, code, bound)

    def test_not_admissible(self):
        for place, value in enumerate(NO_ADMISSIBLE_CODES):
            with self.subTest(place=place):
                for period in (1, 1000, 0, 1001, None):
                    self.check_raises(NotAdmissible, periods_up_to, value, period)

    def test_invalid_period(self):
        for place, period in enumerate(NO_PERIODS + [1001, 1002, 10 ** 30, HUGE]):
            with self.subTest(place=place):
                for code in ("C", "RLC", TOP):
                    self.check_raises(InvalidPeriod, periods_up_to, code, period)
