from fractions import Fraction

from humpcodes.errors import InvalidPeriod, NotAdmissible
from humpcodes.growths import lower_weights, upper_weights
from humpcodes.kinds import codes_of_growth, compare_growths, count_of_growth, growth_class
from humpcodes.listing import count_codes
from humpcodes.signs import growth_value
from tests import reference
from tests import reference_growths as growths
from tests.support import Cases
from tests.values import HUGE, NO_ADMISSIBLE_CODES, NO_PERIODS

SHORT = reference.admissible_up_to(8)
LONG = reference.long_codes(40, 8) + reference.long_codes(39, 4) + reference.long_codes(20, 4)
POWERS = tuple(reference.product_of(["RC"] * number) for number in range(6))
TOP = "R" + "L" * 38 + "C"
MIXED = tuple(
    reference.product_of(parts) for parts in (
        ["RC", "RLC"], ["RLC", "RC"], ["RC", "RC", "RLC"], ["RC", "RLC", "RC"], ["RLC", "RC", "RC"], ["RLC", "RLC"],
        ["RC", "RLC", "RLC"], ["RC"] * 3 + ["RLLRC"], ["RC"] * 3 + ["RLRRC"], ["RC"] * 3 + ["RLC"],
        ["RC", "RLLLC", "RC", "RC"], ["RC", "RLLC", "RLLLC"], ["RLC", "RC", "RLLC"], ["RC", "RLRRC"],
        ["RLC", "RC", "RC", "RC"], ["RLC", "RLC", "RLC"], ["RLLLC", "RC"], ["RC", "RLLLC"]))
OVER_FORTY = NO_PERIODS + [41, 42, 1000, 10 ** 30, HUGE]
OVER_THOUSAND = NO_PERIODS + [1001, 1002, 10 ** 30, HUGE]


def sign_of(number):
    return (number > 0) - (number < 0)


class GrowthClassTest(Cases):
    def check_class(self, code, expected):
        found = growth_class(code)
        self.assertEqual(found, expected, code)
        if found is not None:
            self.assertEqual([type(found)] + [type(entry) for entry in found], [tuple, int, str])

    def test_all_small_codes(self):
        for code in reference.admissible_up_to(9):
            self.check_class(code, growths.growth_class(code))

    def test_known_classes(self):
        self.check_class("C", None)
        self.check_class("RC", None)
        self.check_class("RLRC", None)
        self.check_class("RLC", (0, "RLC"))
        self.check_class("RLRRRC", (1, "RLC"))
        self.check_class("RLLRLC", (0, "RLC"))
        self.check_class("RLRRC", (0, "RLRRC"))
        self.check_class(TOP, (0, TOP))

    def test_products_of_factors(self):
        for number in range(4):
            flat = ["RC"] * number
            self.check_class(reference.product_of(flat), None)
            for prime in ("RLC", "RLRRC", "RLLRC", "RLLLC"):
                self.check_class(reference.product_of(flat + [prime]), (number, prime))
                for rest in ("RC", "RLC", "RLRC", "RLLRLC"):
                    code = reference.product_of(flat + [prime, rest])
                    if len(code) <= 40:
                        self.check_class(code, (number, prime))
        for code in POWERS:
            self.check_class(code, None)

    def test_products(self):
        codes = reference.admissible_up_to(5)
        for first in codes:
            for second in codes:
                kind, other = growth_class(first), growth_class(second)
                found = growth_class(reference.product(first, second))
                if kind is not None:
                    self.assertEqual(found, kind)
                elif other is None:
                    self.assertIsNone(found)
                else:
                    ahead = len(first).bit_length() - 1
                    self.assertEqual(found, (ahead + other[0], other[1]))

    def test_growth_one(self):
        for code in SHORT + LONG + MIXED + POWERS:
            self.assertIs(growth_class(code) is None, code in POWERS)
            self.assertIs(growth_class(code) is None, lower_weights(code, (1001, 1000)) is None)

    def test_power_of_the_growth(self):
        scale = growths.SCALE
        for code in MIXED + SHORT:
            if growth_class(code) is None:
                continue
            ahead, prime = growth_class(code)
            low, high = growths.growth(code), growths.growth(code) + 1
            power = 2 ** ahead
            self.assertLess(low ** power * scale, (growths.growth(prime) + 1) * scale ** power)
            self.assertGreater(high ** power * scale, growths.growth(prime) * scale ** power)
            self.assertGreater(growths.growth(prime) ** 2, 2 * scale ** 2)

    def test_not_admissible(self):
        self.check_all_raise(NotAdmissible, growth_class, NO_ADMISSIBLE_CODES)


class CompareGrowthsTest(Cases):
    def check_pair(self, first, second):
        found = compare_growths(first, second)
        self.assertIs(type(found), int)
        self.assertEqual(found, sign_of(growths.growth(first) - growths.growth(second)), (first, second))
        self.assertEqual(compare_growths(second, first), -found)
        return found

    def test_reference_by_the_matrix(self):
        # What the other tests take for the growth is where the matrix of the pieces says.
        for code in SHORT:
            low, high = growths.growth_within(code)
            self.assertLessEqual(low, Fraction(growths.growth(code) + 1, growths.SCALE))
            self.assertGreaterEqual(high, Fraction(growths.growth(code), growths.SCALE))

    def test_all_small_codes(self):
        for first in SHORT:
            for second in SHORT:
                found = compare_growths(first, second)
                same = growth_class(first) == growth_class(second)
                self.assertEqual(found, 0 if same else reference.compare(first, second))
                self.assertEqual(found, sign_of(growths.growth(first) - growths.growth(second)), (first, second))

    def test_ascending_codes(self):
        codes = reference.admissible_up_to(12)
        equal = 0
        for one, other in zip(codes, codes[1:]):
            found = self.check_pair(one, other)
            self.assertIn(found, (-1, 0))
            equal += found == 0
        self.assertEqual(equal, 16)

    def test_long_codes(self):
        codes = LONG + MIXED + POWERS + (TOP,) + SHORT[::9]
        for place, first in enumerate(codes):
            for second in codes[place:]:
                self.check_pair(first, second)

    def test_close_growths(self):
        for size in range(30, 40):
            one, other = "R" + "L" * (size - 2) + "C", "R" + "L" * (size - 1) + "C"
            self.assertEqual(compare_growths(one, other), -1)
            self.assertEqual(compare_growths(other, one), 1)
            self.assertEqual(compare_growths(one, one), 0)

    def test_against_the_weights(self):
        codes = SHORT[::3] + LONG[::2] + MIXED + POWERS[:3]
        for first in codes:
            for second in codes:
                if compare_growths(first, second) < 0:
                    middle = (growths.growth(first) + growths.growth(second)) // 2
                    fraction = growths.pair(Fraction(middle, growths.SCALE))
                    self.assertIsNotNone(upper_weights(first, fraction))
                    self.assertIsNotNone(lower_weights(second, fraction))

    def test_against_the_growth_polynomial(self):
        for first in MIXED + SHORT:
            for second in MIXED + SHORT[::4]:
                if growth_class(first) is None or compare_growths(first, second) != 0:
                    continue
                # Both polynomials have a zero at the one growth: they are negative
                # right before it and positive right behind it.
                below = growths.pair(Fraction(growths.growth(first), growths.SCALE))
                above = growths.pair(Fraction(growths.growth(first) + 1, growths.SCALE))
                for code in (first, second):
                    self.assertGreater(growth_value(code, above)[0], 0)
                    self.assertIsNotNone(lower_weights(code, below))
                    self.assertIsNotNone(upper_weights(code, above))

    def test_known_ones(self):
        self.assertEqual(compare_growths("RLC", "RLLRLC"), 0)
        self.assertEqual(compare_growths("C", "RLRC"), 0)
        self.assertEqual(compare_growths("C", POWERS[5]), 0)
        self.assertEqual(compare_growths("RLRRRC", "RLC"), -1)
        self.assertEqual(compare_growths("RLC", "RLRRRC"), 1)
        self.assertEqual(compare_growths("RLC", "C"), 1)

    def test_not_admissible(self):
        for place, value in enumerate(NO_ADMISSIBLE_CODES):
            with self.subTest(place=place):
                for code in ("C", "RLC", None, "RRC"):
                    self.check_raises(NotAdmissible, compare_growths, value, code)
                    self.check_raises(NotAdmissible, compare_growths, code, value)


class CodesOfGrowthTest(Cases):
    def test_all_small_codes(self):
        for code in reference.admissible_up_to(6) + MIXED[:6]:
            for period in range(1, 11):
                expected = [other for other in reference.admissible_of(period)
                            if growths.growth(other) == growths.growth(code)]
                self.assertEqual(codes_of_growth(code, period), expected, (code, period))
                self.assertEqual(count_of_growth(code, period), len(expected))

    def test_period_twelve(self):
        for code in ("RLC", "RLRRRC", "RC", "RLLLC", "RLLC", "C", "RLLRLC"):
            expected = [other for other in reference.admissible_of(12)
                        if growths.growth(other) == growths.growth(code)]
            self.assertEqual(codes_of_growth(code, 12), expected)
            self.assertEqual(count_of_growth(code, 12), len(expected))

    def test_all_periods(self):
        for code in MIXED + POWERS + ("RLC", "RLLC", "RLLLLLC", TOP, LONG[2]):
            for period in range(1, 41):
                found = codes_of_growth(code, period)
                self.assertEqual(len(found), count_of_growth(code, period))
                self.assertEqual(found, sorted(set(found), key=reference.key))
                for other in found[::7]:
                    self.assertEqual(len(other), period)
                    self.assertTrue(reference.is_admissible(other))
                    self.assertEqual(growths.growth(other), growths.growth(code))

    def test_products_with_every_code(self):
        for period in (26, 36, 39, 40):
            for code in ("RLC", "RLRRRC", "RLLC", "RLLLC", "RLRRC"):
                rest, left = divmod(period, len(code))
                found = codes_of_growth(code, period)
                if left:
                    self.assertEqual(found, [])
                else:
                    self.assertEqual(found, [reference.product(code, other) for other in reference.admissible_of(rest)])

    def test_edges(self):
        self.assertEqual(codes_of_growth("RLC", 6), ["RLLRLC"])
        self.assertEqual(codes_of_growth("RLC", 3), ["RLC"])
        self.assertEqual(codes_of_growth("RLC", 1), [])
        self.assertEqual(codes_of_growth("RLC", 40), [])
        self.assertEqual(len(codes_of_growth("RLC", 39)), 315)
        self.assertEqual(codes_of_growth(TOP, 40), [TOP])
        self.assertEqual(codes_of_growth(TOP, 39), [])
        # Codes that are longer than the first factors, and one with RC ahead.
        self.assertEqual(codes_of_growth("RLLRLC", 3), ["RLC"])
        self.assertEqual(codes_of_growth(reference.product("RLLRC", "RLC"), 5), ["RLLRC"])
        self.assertEqual(codes_of_growth("RLRRRC", 6), ["RLRRRC"])
        self.assertEqual(codes_of_growth("RLRRRC", 3), [])

    def test_growth_one(self):
        for code in POWERS:
            for period in range(1, 41):
                expected = [power for power in POWERS if len(power) == period]
                self.assertEqual(codes_of_growth(code, period), expected)
            for period in range(1, 1001):
                self.assertEqual(count_of_growth(code, period), period in (1, 2, 4, 8, 16, 32, 64, 128, 256, 512))
                self.assertIs(type(count_of_growth(code, period)), int)

    def test_counts_up_to_a_thousand(self):
        for code, size in (("RLC", 3), ("RLRRRC", 6), ("RLLRLC", 3), ("RLLLC", 5), (TOP, 40), (MIXED[2], 12)):
            for period in list(range(1, 130)) + [360, 720, 840, 960, 999, 1000]:
                expected = count_codes(period // size) if period % size == 0 else 0
                self.assertEqual(count_of_growth(code, period), expected, (code, period))
        self.assertEqual(count_of_growth("RLC", 9), 1)
        self.assertEqual(count_of_growth("RLC", 1000), 0)
        self.assertEqual(count_of_growth("RLLLC", 1000), count_codes(200))
        self.assertGreater(count_of_growth("RLLLC", 1000), 10 ** 57)

    def test_sum_over_all_classes(self):
        for period in (6, 9, 10, 12):
            kinds = {growth_class(code): code for code in reference.admissible_of(period)}
            total = sum(count_of_growth(code, period) for code in kinds.values())
            self.assertEqual(total, count_codes(period))

    def test_new_lists(self):
        for code in ("C", "RC", "RLC", "RLRRRC"):
            for period in (1, 4, 6, 12):
                self.check_new_list(codes_of_growth, code, period)

    def test_not_admissible_first(self):
        for place, code in enumerate(NO_ADMISSIBLE_CODES):
            with self.subTest(place=place):
                for period in (1, 6, 40, 41, 1001, 0, None):
                    self.check_raises(NotAdmissible, codes_of_growth, code, period)
                    self.check_raises(NotAdmissible, count_of_growth, code, period)

    def test_invalid_period(self):
        for code in ("C", "RC", "RLC", "RLRRRC", TOP):
            for place, period in enumerate(OVER_FORTY):
                with self.subTest(place=place):
                    self.check_raises(InvalidPeriod, codes_of_growth, code, period)
            for place, period in enumerate(OVER_THOUSAND):
                with self.subTest(place=place):
                    self.check_raises(InvalidPeriod, count_of_growth, code, period)
