import itertools

from humpcodes.codes import compare, greater_tail, is_admissible, is_code
from humpcodes.errors import NotACode
from tests import reference
from tests.support import Cases
from tests.values import NO_CODES, NO_CODE_STRINGS, NOT_ADMISSIBLE

SMALL_CODES = [code for period in range(1, 7) for code in reference.all_codes(period)]
LONG_CODES = [code for period in (30, 39, 40) for code in reference.long_codes(period)]


class IsCodeTest(Cases):
    def test_all_strings_of_few_letters(self):
        for length in range(5):
            for letters in itertools.product("LRC", repeat=length):
                text = "".join(letters)
                expected = length > 0 and text.find("C") == length - 1
                self.assertIs(is_code(text), expected, text)

    def test_lengths(self):
        for length in range(1, 60):
            for body in ("L" * (length - 1), "R" * (length - 1), ("RL" * length)[:length - 1]):
                self.assertIs(is_code(body + "C"), length <= 40, length)

    def test_codes_that_are_not_admissible(self):
        for code in NOT_ADMISSIBLE:
            self.assertIs(is_code(code), True, code)

    def test_any_other_value(self):
        for place, value in enumerate(NO_CODES):
            with self.subTest(place=place):
                self.assertIs(is_code(value), False)

    def test_argument_is_not_modified(self):
        value = ["R", ["L"], "C"]
        self.assertIs(is_code(value), False)
        self.assertEqual(value, ["R", ["L"], "C"])


class CompareTest(Cases):
    def test_order_of_the_letters_after_an_even_number(self):
        self.assertEqual(compare("LC", "C"), -1)
        self.assertEqual(compare("C", "RC"), -1)
        self.assertEqual(compare("LC", "RC"), -1)
        self.assertEqual(compare("RRLC", "RRC"), -1)
        self.assertEqual(compare("RRC", "RRRC"), -1)
        self.assertEqual(compare("RLLRLC", "RLLRRC"), -1)

    def test_order_of_the_letters_after_an_odd_number(self):
        self.assertEqual(compare("RLC", "RC"), 1)
        self.assertEqual(compare("RC", "RRC"), 1)
        self.assertEqual(compare("RLC", "RRC"), 1)
        self.assertEqual(compare("LRLC", "LRC"), 1)
        self.assertEqual(compare("LLRC", "LLRRC"), 1)
        self.assertEqual(compare("RRRLC", "RRRRC"), 1)

    def test_late_differences(self):
        for start, sign in (("RL" * 19, -1), ("RL" * 18 + "RR", 1), ("L" * 38, 1), ("R" * 38, 1), ("R" * 37, -1)):
            smaller, greater = start + "C", start + "RC"
            expected = -1 if start.count("R") % 2 == 0 else 1
            self.assertEqual(compare(smaller, greater), expected, start)
            self.assertEqual(compare(greater, smaller), -expected, start)

    def test_all_small_codes(self):
        for first in SMALL_CODES:
            for second in SMALL_CODES:
                self.assertEqual(compare(first, second), reference.compare(first, second), (first, second))

    def test_long_codes(self):
        for first in LONG_CODES:
            for second in LONG_CODES + SMALL_CODES:
                expected = reference.compare(first, second)
                self.assertEqual(compare(first, second), expected, (first, second))
                self.assertEqual(compare(second, first), -expected, (first, second))

    def test_equal_codes(self):
        for code in SMALL_CODES + LONG_CODES + NOT_ADMISSIBLE:
            self.assertEqual(compare(code, code), 0, code)

    def test_no_codes(self):
        for place, value in enumerate(NO_CODES):
            with self.subTest(place=place):
                self.check_raises(NotACode, compare, value, "RLC")
                self.check_raises(NotACode, compare, "RLC", value)
                self.check_raises(NotACode, compare, value, value)
                self.check_raises(NotACode, compare, None, value)

    def test_no_codes_that_differ_early(self):
        for text in NO_CODE_STRINGS:
            self.check_raises(NotACode, compare, "LC", text)
            self.check_raises(NotACode, compare, text, "LC")


class AdmissibleTest(Cases):
    def check_code(self, code):
        expected = reference.greater_tail(code)
        self.assertEqual(greater_tail(code), expected, code)
        self.assertIs(is_admissible(code), expected is None, code)

    def test_known_codes(self):
        for code in ("C", "RC", "RLC", "RLRC", "RLLC", "RLRRC", "RLLRC", "RLLLC", "R" + "L" * 38 + "C"):
            self.assertIs(is_admissible(code), True, code)
            self.assertIsNone(greater_tail(code), code)
        for code in NOT_ADMISSIBLE:
            self.assertIs(is_admissible(code), False, code)
            self.assertIs(type(greater_tail(code)), int, code)

    def test_known_tails(self):
        self.assertEqual(greater_tail("LC"), 1)
        self.assertEqual(greater_tail("RRLC"), 1)
        self.assertEqual(greater_tail("RLRLC"), 2)
        self.assertEqual(greater_tail("RLLRLLC"), 3)
        self.assertEqual(greater_tail("RRRC"), 2)
        self.assertEqual(greater_tail("R" * 39 + "C"), 2)
        self.assertEqual(greater_tail("L" * 39 + "C"), 1)
        self.assertEqual(greater_tail("RL" * 19 + "RC"), reference.greater_tail("RL" * 19 + "RC"))

    def test_all_small_codes(self):
        for period in range(1, 11):
            for code in reference.all_codes(period):
                self.check_code(code)

    def test_long_codes(self):
        for code in LONG_CODES:
            self.check_code(code)
            for index in range(len(code)):
                other = "R" if code[index] == "L" else "L"
                self.check_code((code[:index] + other + code[index + 1:])[:-1] + "C")

    def test_last_tail_is_greater(self):
        # Only the tail RC or LC at the end decides.
        code = "RL" + "R" * 35 + "LC"
        self.check_code(code)
        self.check_code("R" + "L" * 20 + "R" + "L" * 16 + "RC")
        self.check_code("R" + "L" * 18 + "R" + "L" * 18 + "RC")
        self.check_code("R" + "L" * 18 + "R" + "L" * 19 + "C")

    def test_no_codes(self):
        self.check_all_raise(NotACode, is_admissible, NO_CODES)
        self.check_all_raise(NotACode, greater_tail, NO_CODES)
