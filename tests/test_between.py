from humpcodes.between import are_neighbours, shortest_between
from humpcodes.errors import Neighbours, NotAdmissible, SameCode, TooLong
from tests import reference
from tests.support import Cases
from tests.values import NO_ADMISSIBLE_CODES, NOT_ADMISSIBLE

CODES = reference.admissible_up_to(12)
SMALL_CODES = reference.admissible_up_to(7)
DOUBLE = {code: reference.product(code, "RC") for code in CODES}


def close_pairs():
    """Long codes with a long common start: a code, and a beginning of its product with RC as a code."""
    pairs = []
    for period in (3, 7, 12, 18, 20, 21, 25, 33, 38):
        for code in reference.long_codes(period, 6):
            double = reference.product(code, "RC")
            for length in range(period, min(40, 2 * period)):
                start = double[:length] + "C"
                if start != code and start != double and reference.is_admissible(start):
                    pairs.append((code, start))
    return pairs


class NeighboursTest(Cases):
    def test_a_code_and_its_product_with_rc(self):
        for code in CODES + reference.long_codes(20):
            double = reference.product(code, "RC")
            self.assertIs(are_neighbours(code, double), True, code)
            self.assertIs(are_neighbours(double, code), True, code)

    def test_no_code_between_neighbours(self):
        # Between two codes of at most 7 letters there is a code of at most 12, or none.
        for first in SMALL_CODES:
            for second in SMALL_CODES:
                inside = [code for code in CODES if reference.is_between(code, first, second)]
                expected = first != second and inside == []
                self.assertIs(are_neighbours(first, second), expected, (first, second))

    def test_all_small_codes(self):
        for first in CODES[::3]:
            for second in CODES:
                expected = DOUBLE[first] == second or DOUBLE[second] == first
                self.assertIs(are_neighbours(first, second), expected, (first, second))

    def test_products_with_rc_on_the_left(self):
        for code in SMALL_CODES:
            if reference.product("RC", code) != DOUBLE[code]:
                self.assertIs(are_neighbours(code, reference.product("RC", code)), False)
        self.assertIs(are_neighbours("C", "RLRC"), False)
        self.assertIs(are_neighbours("RC", reference.product("RC", "RLRC")), False)

    def test_equal_codes(self):
        for code in CODES + reference.long_codes(40):
            self.assertIs(are_neighbours(code, code), False)

    def test_long_codes(self):
        for first in reference.long_codes(40):
            for second in reference.long_codes(40) + reference.long_codes(20) + SMALL_CODES:
                self.assertIs(are_neighbours(first, second), reference.product(second, "RC") == first)

    def test_not_admissible(self):
        for place, value in enumerate(NO_ADMISSIBLE_CODES):
            with self.subTest(place=place):
                self.check_raises(NotAdmissible, are_neighbours, value, "RLC")
                self.check_raises(NotAdmissible, are_neighbours, "RLC", value)
                self.check_raises(NotAdmissible, are_neighbours, value, value)

    def test_products_that_are_not_admissible(self):
        for code in NOT_ADMISSIBLE:
            if len(code) <= 20:
                self.check_raises(NotAdmissible, are_neighbours, code, reference.product(code, "RC"))
                self.check_raises(NotAdmissible, are_neighbours, reference.product(code, "RC"), code)


class ShortestBetweenTest(Cases):
    def check_both_orders(self, first, second, expected):
        self.assertEqual(shortest_between(first, second), expected, (first, second))
        self.assertEqual(shortest_between(second, first), expected, (second, first))

    def test_exactly_one_shortest_of_all_strings(self):
        for place, first in enumerate(SMALL_CODES):
            for second in SMALL_CODES[place + 1:]:
                inside = [code for code in CODES if reference.is_between(code, first, second)]
                if inside:
                    least = min(len(code) for code in inside)
                    shortest = [code for code in inside if len(code) == least]
                    self.assertEqual(len(shortest), 1, (first, second))
                    self.check_both_orders(first, second, shortest[0])
                else:
                    self.check_raises(Neighbours, shortest_between, first, second)

    def test_longer_codes_against_all_strings(self):
        for first, second in list(zip(CODES, CODES[1:])) + list(zip(CODES, CODES[2:])) + list(zip(CODES, CODES[7:])):
            if second == DOUBLE[first]:
                self.check_raises(Neighbours, shortest_between, first, second)
                continue
            expected = reference.shortest_between(first, second)
            self.assertTrue(reference.is_admissible(expected) and reference.is_between(expected, first, second))
            inside = [code for code in CODES if reference.is_between(code, first, second)]
            if inside:
                self.assertEqual(expected, min(inside, key=len))
            else:
                self.assertGreater(len(expected), 12)
            self.check_both_orders(first, second, expected)

    def test_known_codes(self):
        self.check_both_orders("C", "RLRC", "RC")
        self.check_both_orders("C", "R" + "L" * 38 + "C", "RC")
        self.check_both_orders("RC", "RLC", "RLRC")
        self.check_both_orders("RLC", "RLLC", "RLLRC")
        self.check_both_orders("R" + "L" * 38 + "C", "RLC", "RLLC")

    def test_long_codes(self):
        codes = reference.long_codes(40) + reference.long_codes(39) + reference.long_codes(17)
        for first, second in zip(codes, codes[1:]):
            self.check_both_orders(first, second, reference.shortest_between(first, second))

    def test_long_common_start(self):
        lengths = set()
        for first, second in close_pairs():
            expected = reference.shortest_between(first, second)
            lengths.add(len(expected))
            if len(expected) <= 40:
                self.check_both_orders(first, second, expected)
            else:
                self.check_raises(TooLong, shortest_between, first, second)
                self.check_raises(TooLong, shortest_between, second, first)
        for length in (38, 39, 40, 41, 42, 43):
            self.assertIn(length, lengths)

    def test_known_lengths(self):
        first = "RLLLLRLRLLLRRLRRRRRC"
        self.assertEqual(len(shortest_between(first, "RLLLLRLRLLLRRLRRRRRRRLLLLRLRLLLRRLRRRC")), 40)
        self.check_raises(TooLong, shortest_between, "RLLLLLLLRRLRRLLRRRRLC",
                          "RLLLLLLLRRLRRLLRRRRLLRLLLLLLLRRLRRLLRRRC")
        self.check_both_orders("R" + "L" * 38 + "C", "R" + "L" * 36 + "C", "R" + "L" * 37 + "C")
        self.check_both_orders("R" + "L" * 36 + "C", "R" + "L" * 37 + "C", "R" + "L" * 37 + "RC")
        self.check_raises(TooLong, shortest_between, "R" + "L" * 37 + "C", "R" + "L" * 38 + "C")

    def test_not_admissible(self):
        for place, value in enumerate(NO_ADMISSIBLE_CODES):
            with self.subTest(place=place):
                self.check_raises(NotAdmissible, shortest_between, value, "RLC")
                self.check_raises(NotAdmissible, shortest_between, "RLC", value)
                self.check_raises(NotAdmissible, shortest_between, value, value)

    def test_same_code(self):
        for code in CODES + reference.long_codes(40):
            self.check_raises(SameCode, shortest_between, code, code)

    def test_neighbours(self):
        for code in CODES + reference.long_codes(20):
            double = reference.product(code, "RC")
            self.check_raises(Neighbours, shortest_between, code, double)
            self.check_raises(Neighbours, shortest_between, double, code)

    def test_same_but_not_admissible(self):
        for code in NOT_ADMISSIBLE:
            self.check_raises(NotAdmissible, shortest_between, code, code)
            if len(code) <= 20:
                self.check_raises(NotAdmissible, shortest_between, code, reference.product(code, "RC"))
