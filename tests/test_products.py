from humpcodes.errors import NotACode, NotAdmissible, TooLong
from humpcodes.products import factors, is_prime, product, quotient
from tests import reference
from tests.support import Cases
from tests.values import NO_ADMISSIBLE_CODES, NO_CODES, NOT_ADMISSIBLE

SMALL_CODES = [code for period in range(1, 6) for code in reference.all_codes(period)]
FORTY = "R" + "L" * 38 + "C"


def changed(code, index):
    """The code with the other letter at the index."""
    return code[:index] + ("R" if code[index] == "L" else "L") + code[index + 1:]


class ProductTest(Cases):
    def test_even_left_factor(self):
        self.assertEqual(product("LC", "RLC"), "LRLLLC")
        self.assertEqual(product("RRC", "RLRC"), "RRRRRLRRRRRC")
        self.assertEqual(product("RLRC", "RLC"), "RLRRRLRLRLRC")

    def test_odd_left_factor(self):
        self.assertEqual(product("RC", "RLRC"), "RLRRRLRC")
        self.assertEqual(product("RLC", "RLC"), "RLLRLRRLC")
        self.assertEqual(product("RRRC", "LRC"), "RRRRRRRLRRRC")

    def test_c_on_either_side(self):
        for code in SMALL_CODES + NOT_ADMISSIBLE + [FORTY]:
            self.assertEqual(product("C", code), code)
            self.assertEqual(product(code, "C"), code)

    def test_all_small_codes(self):
        for first in SMALL_CODES:
            for second in SMALL_CODES:
                self.assertEqual(product(first, second), reference.product(first, second), (first, second))

    def test_associative(self):
        codes = [code for code in SMALL_CODES if len(code) <= 3]
        for first in codes:
            for second in codes:
                for third in codes:
                    one = product(product(first, second), third)
                    other = product(first, product(second, third))
                    self.assertEqual(one, other, (first, second, third))

    def test_admissible_codes_have_an_admissible_product(self):
        for first in reference.admissible_up_to(6):
            for second in reference.admissible_up_to(6):
                self.assertTrue(reference.is_admissible(product(first, second)), (first, second))

    def test_forty_letters(self):
        for size in (1, 2, 4, 5, 8, 10, 20, 40):
            for first in reference.long_codes(size, 3) if size > 9 else reference.all_codes(size)[:4]:
                for second in (reference.least_code(40 // size), "L" * (40 // size - 1) + "C"):
                    whole = product(first, second)
                    self.assertEqual(len(whole), 40)
                    self.assertEqual(whole, reference.product(first, second))

    def test_too_long(self):
        sizes = [(2, 21), (21, 2), (3, 14), (14, 3), (6, 7), (7, 6), (4, 11), (11, 4), (5, 9), (9, 5), (40, 2),
                 (2, 40), (40, 40), (39, 2), (13, 4)]
        for one, other in sizes:
            self.check_raises(TooLong, product, reference.least_code(one), reference.least_code(other))
            self.check_raises(TooLong, product, "L" * (one - 1) + "C", "R" * (other - 1) + "C")

    def test_no_codes(self):
        for place, value in enumerate(NO_CODES):
            with self.subTest(place=place):
                for code in ("C", "RLC", FORTY):
                    self.check_raises(NotACode, product, value, code)
                    self.check_raises(NotACode, product, code, value)
                self.check_raises(NotACode, product, value, value)


class QuotientTest(Cases):
    def test_undoes_product(self):
        for first in SMALL_CODES:
            for second in SMALL_CODES:
                self.assertEqual(quotient(product(first, second), first), second, (first, second))

    def test_undoes_long_products(self):
        for size in (2, 4, 5, 8, 10, 20):
            for second in reference.long_codes(40 // size) if size < 5 else reference.all_codes(40 // size)[:8]:
                for first in reference.all_codes(min(size, 5)):
                    self.assertEqual(quotient(product(first, second), first), second, (first, second))

    def test_all_small_codes(self):
        for code in [code for period in range(1, 8) for code in reference.all_codes(period)]:
            for first in SMALL_CODES:
                rests = []
                if len(code) % len(first) == 0:
                    seconds = reference.all_codes(len(code) // len(first))
                    rests = [rest for rest in seconds if reference.product(first, rest) == code]
                expected = rests[0] if rests else None
                self.assertEqual(quotient(code, first), expected, (code, first))

    def test_c_as_either_argument(self):
        for code in SMALL_CODES + NOT_ADMISSIBLE + [FORTY]:
            self.assertEqual(quotient(code, "C"), code)
            self.assertEqual(quotient(code, code), "C")
            if code != "C":
                self.assertIsNone(quotient("C", code))

    def test_one_letter_changed(self):
        for first, second in (("RLC", "RLRRC"), ("RLRC", "RLLC"), ("RRC", "LRRLC"), ("RC", "RLRRLLRC")):
            whole = product(first, second)
            for index in range(len(whole) - 1):
                found = quotient(changed(whole, index), first)
                if index % len(first) == len(first) - 1:
                    self.assertEqual(found, changed(second, index // len(first)))
                else:
                    self.assertIsNone(found)
            for index in range(len(first) - 1):
                self.assertIsNone(quotient(whole, changed(first, index)))

    def test_last_block_does_not_fit(self):
        self.assertIsNone(quotient("RLRRLLLLC", "RLC"))
        self.assertIsNone(quotient("RLRRLRRRC", "RLC"))
        self.assertEqual(quotient("RLRRLLRLC", "RLC"), "LRC")

    def test_period_that_does_not_divide(self):
        self.assertIsNone(quotient("RLLRC", "RLC"))
        self.assertIsNone(quotient("RLC", "RC"))
        self.assertIsNone(quotient("RLC", "RLLRLC"))
        self.assertIsNone(quotient("LLLLC", "LC"))
        self.assertIsNone(quotient("LLLLLLLC", "LLC"))

    def test_no_codes(self):
        for place, value in enumerate(NO_CODES):
            with self.subTest(place=place):
                for code in ("C", "RLC", FORTY):
                    self.check_raises(NotACode, quotient, value, code)
                    self.check_raises(NotACode, quotient, code, value)
                self.check_raises(NotACode, quotient, value, value)


class FactorsTest(Cases):
    def test_exactly_one_way(self):
        for code in reference.admissible_up_to(12):
            ways = reference.factorings(code)
            self.assertEqual(len(ways), 1, code)
            self.assertEqual(factors(code), ways[0], code)

    def test_prime_codes(self):
        for period in range(1, 13):
            primes = reference.primes_of(period)
            for code in reference.admissible_of(period):
                self.assertIs(is_prime(code), code in primes, code)

    def test_c(self):
        self.assertEqual(factors("C"), [])
        self.assertIs(is_prime("C"), False)

    def test_known_factors(self):
        self.assertEqual(factors("RC"), ["RC"])
        self.assertEqual(factors("RLRC"), ["RC", "RC"])
        self.assertEqual(factors("RLC"), ["RLC"])
        self.assertEqual(factors("RLLC"), ["RLLC"])
        self.assertEqual(factors("RLRRRC"), ["RC", "RLC"])
        self.assertEqual(factors("RLLRLRRLC"), ["RLC", "RLC"])
        self.assertIs(is_prime("RC"), True)
        self.assertIs(is_prime("RLRC"), False)
        self.assertIs(is_prime("RLRRRC"), False)

    def test_products_of_several_prime_codes(self):
        lists = [
            ["RC"] * 3, ["RC"] * 5, ["RLC", "RC", "RLC"], ["RC", "RLC", "RC", "RLC"], ["RLC", "RLC", "RLLC"],
            ["RC", "RC", "RC", "RLRRC"], ["RLRRC", "RC", "RC", "RC"], ["RLLC", "RC", "RLLLC"], ["RLLLC", "RLLC", "RC"],
            ["RC", "RLLRC", "RLLC"], ["RLLC", "RLLC"], ["RLLLC", "RLRRC"], ["RLRRC", "RLLLC"], ["RLC", "RLC", "RLC"],
        ]
        for parts in lists:
            whole = reference.product_of(parts)
            self.assertEqual(factors(whole), parts)
            self.assertIs(is_prime(whole), False)

    def test_long_codes(self):
        for period in (23, 24, 30, 36, 37, 39, 40):
            for code in reference.long_codes(period):
                parts = factors(code)
                self.assertEqual(reference.product_of(parts), code)
                self.assertIs(is_prime(code), len(parts) == 1)
                for part in parts:
                    self.assertIs(is_prime(part), True)
                    self.assertEqual(factors(part), [part])

    def test_forty_letters(self):
        self.assertEqual(factors(FORTY), [FORTY])
        self.assertIs(is_prime(FORTY), True)
        for first in reference.long_codes(20):
            parts = factors(first)
            self.assertEqual(factors(reference.product(first, "RC")), parts + ["RC"])
            self.assertEqual(factors(reference.product("RC", first)), ["RC"] + parts)

    def test_new_lists(self):
        for code in ("C", "RC", "RLLRLC", FORTY):
            self.check_new_list(factors, code)

    def test_not_admissible(self):
        self.check_all_raise(NotAdmissible, factors, NO_ADMISSIBLE_CODES)
        self.check_all_raise(NotAdmissible, is_prime, NO_ADMISSIBLE_CODES)

    def test_products_that_are_not_admissible(self):
        for first, second in (("RC", "LC"), ("LC", "RC"), ("RRC", "RC"), ("RLC", "RRC")):
            self.check_raises(NotAdmissible, factors, reference.product(first, second))
            self.check_raises(NotAdmissible, is_prime, reference.product(first, second))
