from fractions import Fraction

from humpcodes.errors import InvalidCount, NotAdmissible
from humpcodes.growths import lower_weights, upper_weights
from humpcodes.tents import compare_growth, tent_letters
from humpcodes.wrongs import InvalidFraction
from tests import reference
from tests import reference_growths as growths
from tests.support import Cases
from tests.values import HUGE, NO_ADMISSIBLE_CODES, NO_COUNTS, NO_FRACTIONS

SHORT = reference.admissible_up_to(9)
LONG = reference.long_codes(40, 8) + reference.long_codes(39, 4) + reference.long_codes(20, 4)
POWERS = tuple(reference.product_of(["RC"] * number) for number in range(6))
TOP = "R" + "L" * 38 + "C"
FRACTIONS = growths.fractions_up_to(9, 2)
LARGE = [
    (10 ** 12 + 1, 10 ** 12), (2 * 10 ** 12 - 1, 10 ** 12), (10 ** 12 - 1, 10 ** 12 - 2), (1414213562373, 10 ** 12),
    (1618033988749, 10 ** 12), (2 * 10 ** 12 - 3, 10 ** 12 - 1),
]
ABOVE_TWO = [(5, 2), (3, 1), (201, 100), (2 * 10 ** 12 + 1, 10 ** 12), (10 ** 12, 1), (HUGE, 1), (2 * HUGE + 1, HUGE)]
NO_LENGTHS = NO_COUNTS + [101, 102, 1000, 10 ** 30, HUGE]


class TentLettersTest(Cases):
    def test_step_by_step(self):
        for fraction in FRACTIONS + LARGE:
            for length in (0, 1, 2, 3, 10, 40):
                found = tent_letters(fraction, length)
                self.assertIs(type(found), str)
                self.assertEqual(found, growths.tent_letters(Fraction(*fraction), length), (fraction, length))

    def test_a_hundred_letters(self):
        for fraction in FRACTIONS[::3] + LARGE + [(2, 1), (101, 100)]:
            found = tent_letters(fraction, 100)
            self.assertEqual(found, growths.tent_letters(Fraction(*fraction), 100), fraction)

    def test_shorter_ones_are_beginnings(self):
        for fraction in [(2, 1), (3, 2), (101, 100)] + LARGE:
            longest = tent_letters(fraction, 100)
            self.assertEqual(len(longest), 100)
            for length in range(101):
                self.assertEqual(tent_letters(fraction, length), longest[:length])

    def test_known_letters(self):
        self.assertEqual(tent_letters((3, 2), 0), "")
        self.assertEqual(tent_letters((3, 2), 1), "R")
        self.assertEqual(tent_letters((3, 2), 5), "RLRRR")
        self.assertEqual(tent_letters((2, 1), 4), "RLLL")
        self.assertEqual(tent_letters((2, 1), 100), "R" + "L" * 99)
        self.assertEqual(tent_letters((5, 3), 3), "RLL")
        self.assertEqual(tent_letters((8, 5), 3), "RLR")
        self.assertEqual(tent_letters((10 ** 12 + 1, 10 ** 12), 6), "RLRRRL")

    def test_greater_fractions_have_greater_letters(self):
        ascending = sorted(FRACTIONS, key=lambda fraction: Fraction(*fraction))
        for one, other in zip(ascending, ascending[1:]):
            self.assertLess(reference.key(tent_letters(one, 100)), reference.key(tent_letters(other, 100)))

    def test_invalid_fraction_first(self):
        for place, fraction in enumerate(NO_FRACTIONS + ABOVE_TWO):
            with self.subTest(place=place):
                for length in (0, 5, 100, 101, -1, None, True):
                    self.check_raises(InvalidFraction, tent_letters, fraction, length)

    def test_invalid_count(self):
        for place, length in enumerate(NO_LENGTHS):
            with self.subTest(place=place):
                for fraction in ((3, 2), (2, 1), LARGE[0]):
                    self.check_raises(InvalidCount, tent_letters, fraction, length)


class CompareGrowthTest(Cases):
    def check_one(self, code, fraction, expected):
        found = compare_growth(code, fraction)
        self.assertIs(type(found), int)
        self.assertEqual(found, expected, (code, fraction))

    def test_against_the_matrix(self):
        for code in reference.admissible_up_to(8):
            for fraction in growths.fractions_up_to(6, 3) + [(101, 100), (199, 100), (100, 1)]:
                self.check_one(code, fraction, -1 if growths.is_growth_less(code, Fraction(*fraction)) else 1)

    def test_against_the_weights(self):
        for code in SHORT + LONG + POWERS + (TOP,):
            for fraction in FRACTIONS[::3] + LARGE + [(2, 1), (5, 2)]:
                if upper_weights(code, fraction) is not None:
                    self.check_one(code, fraction, -1)
                else:
                    self.assertIsNotNone(lower_weights(code, fraction))
                    self.check_one(code, fraction, 1)

    def test_against_the_letters(self):
        for code in SHORT + LONG + POWERS + (TOP,):
            for fraction in FRACTIONS[::2] + LARGE:
                self.check_one(code, fraction, reference.compare(code, tent_letters(fraction, len(code))))

    def test_near_the_growth(self):
        for code in SHORT + LONG:
            low, high = growths.rounded(code)
            self.check_one(code, growths.pair(high), -1)
            if low > 1:
                self.check_one(code, growths.pair(low), 1)
        for code in reference.admissible_up_to(7):
            low, high = growths.growth_within(code)
            self.check_one(code, growths.pair(high), -1)
            if low > 1:
                self.check_one(code, growths.pair(low), 1)

    def test_greater_than_two(self):
        for code in SHORT + LONG + POWERS + (TOP,):
            for fraction in [(2, 1)] + ABOVE_TWO:
                self.assertEqual(compare_growth(code, fraction), -1)

    def test_growth_one(self):
        for code in POWERS:
            for fraction in FRACTIONS + LARGE + ABOVE_TWO + [(HUGE + 1, HUGE)]:
                self.assertEqual(compare_growth(code, fraction), -1)
        for code in SHORT:
            self.check_one(code, (1001, 1000), -1 if code in POWERS else 1)

    def test_known_growths(self):
        # The golden ratio, and its square root.
        for code, above, below in (("RLC", (13, 8), (21, 13)), ("RLC", (34, 21), (55, 34)), ("RLC", (17, 10), (3, 2)),
                                   ("RLRRRC", (12721, 10000), (12719, 10000)), ("RLLC", (184, 99), (183, 100)),
                                   (TOP, (2, 1), (2 * 10 ** 11 - 1, 10 ** 11))):
            self.check_one(code, above, -1)
            self.check_one(code, below, 1)
        self.check_one("C", (5, 1), -1)

    def test_not_admissible_first(self):
        for place, code in enumerate(NO_ADMISSIBLE_CODES):
            with self.subTest(place=place):
                for fraction in ((3, 2), (5, 2), (4, 2), (1, 1), None, "C"):
                    self.check_raises(NotAdmissible, compare_growth, code, fraction)

    def test_invalid_fraction(self):
        for place, fraction in enumerate(NO_FRACTIONS):
            with self.subTest(place=place):
                for code in ("C", "RC", "RLC", TOP):
                    self.check_raises(InvalidFraction, compare_growth, code, fraction)
