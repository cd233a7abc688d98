from fractions import Fraction
from math import gcd

from humpcodes.ratios import in_lowest_terms, is_above_one, is_fraction, require_above_one
from humpcodes.wrongs import InvalidFraction
from tests.support import Cases
from tests.values import HUGE, NO_FRACTIONS, NO_POINTS


class RatiosTest(Cases):
    def test_fractions(self):
        for over in range(-6, 7):
            for under in range(-6, 7):
                expected = under >= 1 and gcd(over, under) == 1
                self.assertIs(is_fraction((over, under)), expected, (over, under))
        self.assertIs(is_fraction((1, 0)), False)
        self.assertIs(is_fraction((HUGE + 1, HUGE)), True)
        self.assertIs(is_fraction((HUGE, HUGE + 1)), True)
        self.assertIs(is_fraction((HUGE, 10)), False)

    def test_wrong_values(self):
        for place, value in enumerate(NO_POINTS):
            entries = list(value) if isinstance(value, tuple) else []
            if [type(entry) for entry in entries] != [int, int]:
                with self.subTest(place=place):
                    self.assertIs(is_fraction(value), False)

    def test_lowest_terms(self):
        for over in range(-8, 9):
            for under in range(-8, 9):
                if under != 0:
                    found = in_lowest_terms(over, under)
                    expected = Fraction(over, under)
                    self.assertEqual(found, (expected.numerator, expected.denominator), (over, under))
                    self.assertIs(is_fraction(found), True)

    def test_above_one(self):
        for over in range(-6, 7):
            for under in range(-6, 7):
                expected = over > under >= 1 and gcd(over, under) == 1
                self.assertIs(is_above_one((over, under)), expected, (over, under))
        for fraction in ((HUGE + 1, HUGE), (HUGE, 7), (10 ** 12 + 1, 10 ** 12), (2, 1)):
            self.assertIs(is_above_one(fraction), True)
            self.assertIsNone(require_above_one(fraction))

    def test_not_above_one(self):
        for place, value in enumerate(NO_FRACTIONS):
            with self.subTest(place=place):
                self.assertIs(is_above_one(value), False)
                self.check_raises(InvalidFraction, require_above_one, value)
