import copy
from fractions import Fraction

from humpcodes.errors import NotAdmissible
from humpcodes.growths import lower_weights, upper_weights
from humpcodes.kinds import growth_class
from humpcodes.records import judge
from humpcodes.tents import compare_growth, tent_letters
from humpcodes.wrongs import NotARecord
from tests import reference
from tests import reference_growths as growths
from tests.support import Cases
from tests.values import HUGE, NO_ADMISSIBLE_CODES, NO_CODES, NO_FRACTIONS, NO_PERIODS, NO_POINTS, NO_WORDS, nested

RIGHT = ("right",)
SHORT = reference.admissible_up_to(6)
LONG = reference.long_codes(40, 4) + reference.long_codes(20, 3)
POWERS = tuple(reference.product_of(["RC"] * number) for number in range(6))
PRIMES = [code for period in range(3, 7) for code in reference.primes_of(period)]
TOP = "R" + "L" * 38 + "C"
FRACTIONS = growths.fractions_up_to(5, 3)
ABOVE_TWO = [(5, 2), (3, 1), (2 * 10 ** 12 + 1, 10 ** 12), (HUGE, 7)]
# No integers from 0 to 5.
NO_NUMBERS = [value for value in NO_PERIODS if not (type(value) is int and value == 0)]
NO_NUMBERS += [6, 7, 40, 10 ** 30, HUGE, True, False, (0,), [0], "0"]
ANY_VALUES = NO_CODES + NO_PERIODS + NO_POINTS + NO_WORDS + NO_FRACTIONS + [
    "C", "RC", "RLC", "RLRRRC", 0, 1, 2, -1, 3, (), (1, 1), (1, 2), (3, 2), (5, 3), (3, 5), (5, 8)]

# Right records of each kind, with the number of their conditions.
SAMPLES = [
    (("upper", "RLC", (5, 3), (3, 5)), 2),
    (("lower", "RLC", (8, 5), (5, 8)), 2),
    (("flat", "RLRC", 2), 2),
    (("class", "RLRRRC", 1, "RLC", "C"), 4),
    (("apart", "RLRRRC", "RLC", (3, 2), (3, 2, 4, 2, 2), (1, 2)), 4),
    (("tent", "RLC", (3, 2), 2, 1), 4),
]


class JudgeCases(Cases):
    def check_right(self, *record):
        found = judge(record)
        self.assertIs(found == RIGHT, True, "not right")
        self.assertEqual([type(found), type(found[0])], [tuple, str])

    def check_wrong(self, number, *record):
        # Records are not shown in messages: some entries are too large to be written out.
        found = judge(record)
        self.assertEqual(found, ("wrong", number))
        self.assertEqual([type(found), type(found[1])], [tuple, int])

    def check_expected(self, expected, *record):
        if expected is None:
            self.check_right(*record)
        else:
            self.check_wrong(expected, *record)


class FormTest(JudgeCases):
    def test_samples(self):
        for record, _ in SAMPLES:
            self.check_right(*record)

    def test_no_tuples(self):
        for place, value in enumerate(ANY_VALUES):
            with self.subTest(place=place):
                self.check_raises(NotARecord, judge, value)
        for record, _ in SAMPLES:
            for value in (list(record), [record], (record,), record[0], record[1], dict(enumerate(record)), None, ()):
                self.check_raises(NotARecord, judge, value)

    def test_one_entry_less_or_more(self):
        for record, _ in SAMPLES:
            for size in range(len(record)):
                self.check_raises(NotARecord, judge, record[:size])
            for more in (None, "C", 1, (), record[-1]):
                self.check_raises(NotARecord, judge, record + (more,))
            self.check_raises(NotARecord, judge, record[1:])
            self.check_raises(NotARecord, judge, record + record)

    def test_other_beginnings(self):
        others = ["", "Upper", "upper ", " lower", "LOWER", "flats", "classes", "clas", "a part", "apar", "tents",
                  "right", "wrong", "product", "between", "neighbours", "point", "no period", "not admissible"]
        for record, _ in SAMPLES:
            for place, first in enumerate(others + ANY_VALUES + [["upper"], ("upper",), nested("tent", 7)]):
                with self.subTest(kind=record[0], place=place):
                    self.check_raises(NotARecord, judge, (first,) + record[1:])

    def test_kinds_of_another_size(self):
        for first, _ in SAMPLES:
            for second, _ in SAMPLES:
                if len(first) != len(second):
                    self.check_raises(NotARecord, judge, (first[0],) + second[1:])

    def test_second_entry(self):
        for record, _ in SAMPLES:
            for place, value in enumerate(NO_ADMISSIBLE_CODES):
                with self.subTest(kind=record[0], place=place):
                    self.check_raises(NotAdmissible, judge, (record[0], value) + record[2:])
                    # It is looked at before all conditions, and after the form.
                    self.check_raises(NotAdmissible, judge, (record[0], value) + (None,) * (len(record) - 2))
                    self.check_raises(NotARecord, judge, (record[0], value) + record[3:])
                    self.check_raises(NotARecord, judge, (record[0], value) + record[2:] + (1,))

    def test_any_value_in_the_other_places(self):
        for record, conditions in SAMPLES:
            for place in range(2, len(record)):
                for number, value in enumerate(ANY_VALUES):
                    with self.subTest(kind=record[0], place=place, number=number):
                        kept = copy.deepcopy(value)
                        found = judge(record[:place] + (value,) + record[place + 1:])
                        self.assertIn(found, [RIGHT] + [("wrong", number) for number in range(conditions)])
                        self.assertIs(value == kept, True)

    def test_nothing_right_behind(self):
        for record, _ in SAMPLES:
            for value in (None, [], "x", {}, -1, nested(None, 8)):
                self.check_wrong(0, record[0], record[1], *([value] * (len(record) - 2)))


class WeightsTest(JudgeCases):
    def test_small_codes(self):
        seen = {}
        for code in SHORT:
            for fraction in FRACTIONS:
                for weights in self.some_weights(code, fraction):
                    upper = None if growths.are_upper(code, fraction, weights) else 1
                    lower = None if growths.are_lower(code, fraction, weights) else 1
                    self.check_expected(upper, "upper", code, fraction, weights)
                    self.check_expected(lower, "lower", code, fraction, weights)
                    seen[upper, lower] = seen.get((upper, lower), 0) + 1
        self.assertEqual(set(seen), {(None, 1), (1, None), (1, 1)})

    def some_weights(self, code, fraction):
        right = upper_weights(code, fraction) or lower_weights(code, fraction) or ()
        yield from [right, right + (1,), right[1:], tuple(-weight for weight in right), (1,) * (len(code) - 1)]
        yield tuple(weight - 1 for weight in right)
        for place in range(len(right)):
            yield right[:place] + (right[place] - 1,) + right[place + 1:]

    def test_what_the_program_returns(self):
        for code in SHORT + LONG + POWERS + (TOP,):
            for fraction in FRACTIONS + [(101, 100), (10 ** 12 + 1, 10 ** 12), (5, 1)]:
                upper, lower = upper_weights(code, fraction), lower_weights(code, fraction)
                if upper is not None:
                    self.check_right("upper", code, fraction, upper)
                    self.check_wrong(1, "lower", code, fraction, upper)
                    self.check_wrong(1, "upper", code, fraction, list(upper))
                else:
                    self.check_right("lower", code, fraction, lower)
                    self.check_wrong(1, "upper", code, fraction, lower)
                    self.check_wrong(1, "lower", code, fraction, list(lower))

    def test_c(self):
        self.check_right("upper", "C", (3, 2), ())
        self.check_wrong(1, "lower", "C", (3, 2), ())
        self.check_wrong(1, "upper", "C", (3, 2), [])

    def test_fractions(self):
        for place, fraction in enumerate(NO_FRACTIONS):
            with self.subTest(place=place):
                for code, weights in (("C", ()), ("RC", (1,)), ("RLC", (3, 5)), ("RLC", None)):
                    self.check_wrong(0, "upper", code, fraction, weights)
                    self.check_wrong(0, "lower", code, fraction, weights)
        for fraction in ABOVE_TWO:
            self.check_right("upper", "RC", fraction, (1,))
            self.check_wrong(1, "lower", "RC", fraction, (1,))

    def test_weights_of_any_value(self):
        for place, value in enumerate(ANY_VALUES):
            with self.subTest(place=place):
                for code in ("C", "RC", "RLC", "RLRRRC"):
                    upper = None if growths.are_upper(code, (3, 2), value) else 1
                    lower = None if growths.are_lower(code, (3, 2), value) else 1
                    self.check_expected(upper, "upper", code, (3, 2), value)
                    self.check_expected(lower, "lower", code, (3, 2), value)
        self.check_wrong(1, "upper", "RC", (3, 2), (True,))
        self.check_wrong(1, "lower", "RLC", (3, 2), (0, 0))
        self.check_wrong(1, "lower", "RLLC", (3, 2), (False, 1, 2))
        self.check_right("lower", "RLLC", (3, 2), (0, 1, 2))


class FlatTest(JudgeCases):
    def test_all_numbers(self):
        for code in SHORT + LONG + POWERS + (TOP,):
            for number in range(6):
                self.check_expected(None if POWERS[number] == code else 1, "flat", code, number)

    def test_other_numbers(self):
        for place, value in enumerate(NO_NUMBERS):
            with self.subTest(place=place):
                for code in ("C", "RC", "RLC", POWERS[5]):
                    self.check_wrong(0, "flat", code, value)

    def test_edges(self):
        self.check_right("flat", "C", 0)
        self.check_right("flat", reference.least_code(32), 5)
        self.check_wrong(1, "flat", "RC", 0)
        self.check_wrong(0, "flat", "RC", True)
        self.check_wrong(0, "flat", "C", False)


class ClassTest(JudgeCases):
    def test_products(self):
        for number in range(6):
            for prime in ["RLC", "RLRRC", "RLLLC"] + PRIMES[-3:]:
                for rest in ["C", "RC", "RLC", "RLRRC"]:
                    code = reference.product_of(["RC"] * number + [prime, rest])
                    if len(code) > 40:
                        self.check_wrong(3, "class", "RLC", number, prime, rest)
                        continue
                    self.check_right("class", code, number, prime, rest)
                    for other in range(6):
                        if other != number:
                            self.check_wrong(3, "class", code, other, prime, rest)

    def test_all_small_codes(self):
        codes = reference.admissible_up_to(5)
        for code in SHORT:
            for number in range(3):
                for prime in codes:
                    for rest in codes:
                        whole = reference.product_of(["RC"] * number + [prime, rest])
                        if prime == "RC" or len(prime) < 2 or prime not in reference.primes_of(len(prime)):
                            expected = 1
                        else:
                            expected = None if whole == code else 3
                        self.check_expected(expected, "class", code, number, prime, rest)

    def test_what_the_program_returns(self):
        for code in reference.admissible_up_to(9) + LONG + POWERS:
            kind = growth_class(code)
            if kind is None:
                self.check_right("flat", code, len(code).bit_length() - 1)
            else:
                start = reference.product_of(["RC"] * kind[0] + [kind[1]])
                rests = [rest for rest in reference.admissible_of(len(code) // len(start))
                         if reference.product(start, rest) == code]
                self.assertEqual(len(rests), 1)
                self.check_right("class", code, kind[0], kind[1], rests[0])

    def test_numbers(self):
        for place, value in enumerate(NO_NUMBERS):
            with self.subTest(place=place):
                self.check_wrong(0, "class", "RLRRRC", value, "RLC", "C")
                self.check_wrong(0, "class", "RLC", value, None, None)

    def test_primes(self):
        for place, value in enumerate(NO_ADMISSIBLE_CODES + ["C", "RC", "RLRC", "RLRRRC", "RLLRLC", POWERS[5]]):
            with self.subTest(place=place):
                self.check_wrong(1, "class", "RLRRRC", 1, value, "C")
                self.check_wrong(1, "class", "RLRRRC", 0, value, None)
        # Each of these products is the code, but the entry is not such a prime code.
        self.check_wrong(1, "class", "RLRRRC", 0, "RC", "RLC")
        self.check_wrong(1, "class", "RLRRRC", 0, "RLRRRC", "C")
        self.check_wrong(1, "class", "RLRC", 1, "RC", "C")
        self.check_wrong(1, "class", "RLC", 0, "C", "RLC")

    def test_rests(self):
        for place, value in enumerate(NO_ADMISSIBLE_CODES):
            with self.subTest(place=place):
                self.check_wrong(2, "class", "RLRRRC", 1, "RLC", value)

    def test_products_that_are_not_the_code(self):
        self.check_wrong(3, "class", "RLLRLC", 1, "RLC", "C")
        self.check_right("class", "RLLRLC", 0, "RLC", "RC")
        self.check_wrong(3, "class", "RLRRRC", 0, "RLC", "RC")
        self.check_wrong(3, "class", TOP, 5, TOP, TOP)
        self.check_right("class", TOP, 0, TOP, "C")
        self.check_wrong(3, "class", "C", 0, "RLC", "C")


class ApartTest(JudgeCases):
    def test_small_codes(self):
        fractions = [(11, 10), (5, 4), (4, 3), (3, 2), (8, 5), (5, 3), (7, 4), (15, 8), (2, 1), (3, 1)]
        right = 0
        for code in SHORT:
            for other in SHORT[::2]:
                for fraction in fractions:
                    upper, lower = upper_weights(code, fraction), lower_weights(other, fraction)
                    expected = 2 if upper is None else 3 if lower is None else None
                    self.check_expected(expected, "apart", code, other, fraction, upper, lower)
                    right += expected is None
        self.assertGreater(right, 100)

    def test_growths_that_are_apart(self):
        codes = reference.admissible_up_to(7) + LONG
        for one, other in zip(codes, codes[1:]):
            low, high = sorted([one, other], key=growths.growth)
            if growths.growth(low) < growths.growth(high):
                fraction = growths.pair(Fraction(growths.growth(low) + growths.growth(high), 2 * growths.SCALE))
                upper, lower = upper_weights(low, fraction), lower_weights(high, fraction)
                self.check_right("apart", low, high, fraction, upper, lower)
                self.check_wrong(2, "apart", high, low, fraction, upper, lower)

    def test_each_condition(self):
        upper, lower = upper_weights("RLRRRC", (3, 2)), lower_weights("RLC", (3, 2))
        record = ("apart", "RLRRRC", "RLC", (3, 2), upper, lower)
        self.check_right(*record)
        for place, value in enumerate(NO_ADMISSIBLE_CODES):
            with self.subTest(place=place):
                self.check_wrong(0, "apart", "RLRRRC", value, (3, 2), upper, lower)
                self.check_wrong(0, "apart", "RLRRRC", value, None, None, None)
        for place, value in enumerate(NO_FRACTIONS):
            with self.subTest(place=place):
                self.check_wrong(1, "apart", "RLRRRC", "RLC", value, upper, lower)
                self.check_wrong(1, "apart", "RLRRRC", "RLC", value, None, None)
        for place, value in enumerate(ANY_VALUES):
            with self.subTest(place=place):
                expected = None if growths.are_upper("RLRRRC", (3, 2), value) else 2
                self.check_expected(expected, "apart", "RLRRRC", "RLC", (3, 2), value, lower)
                expected = None if growths.are_lower("RLC", (3, 2), value) else 3
                self.check_expected(expected, "apart", "RLRRRC", "RLC", (3, 2), upper, value)
        self.check_wrong(2, "apart", "RLRRRC", "RLC", (3, 2), lower, upper)
        self.check_wrong(2, "apart", "RLRRRC", "RLC", (3, 2), list(upper), list(lower))
        self.check_wrong(3, "apart", "RLRRRC", "RLC", (3, 2), upper, list(lower))
        self.check_wrong(3, "apart", "RLRRRC", "RLC", (3, 2), upper, upper)

    def test_c(self):
        self.check_right("apart", "C", "RLC", (3, 2), (), (2, 3))
        self.check_wrong(3, "apart", "C", "C", (3, 2), (), ())
        self.check_wrong(3, "apart", "RC", "C", (3, 2), (1,), ())


class TentTest(JudgeCases):
    def expected(self, code, fraction, index, sign):
        letters = growths.tent_letters(Fraction(*fraction), len(code))
        first = [place for place in range(len(code)) if letters[place] != code[place]][0]
        if not 0 <= index < len(code):
            return 1
        if index != first:
            return 2
        return None if sign == (1 if reference.compare(letters, code) < 0 else -1) else 3

    def test_small_codes(self):
        seen = {}
        for code in SHORT:
            for fraction in growths.fractions_up_to(6, 2):
                for index in range(-1, len(code) + 1):
                    for sign in (-1, 0, 1, 2):
                        number = self.expected(code, fraction, index, sign)
                        self.check_expected(number, "tent", code, fraction, index, sign)
                        seen[number] = seen.get(number, 0) + 1
        self.assertEqual(set(seen), {None, 1, 2, 3})

    def test_what_the_program_returns(self):
        for code in SHORT + LONG + POWERS + (TOP,):
            for fraction in growths.fractions_up_to(5, 2) + [(10 ** 12 + 1, 10 ** 12), (2 * 10 ** 12 - 1, 10 ** 12)]:
                letters = tent_letters(fraction, len(code))
                index = [place for place in range(len(code)) if letters[place] != code[place]][0]
                sign = compare_growth(code, fraction)
                self.check_right("tent", code, fraction, index, sign)
                self.check_wrong(3, "tent", code, fraction, index, -sign)
                for other in range(len(code)):
                    if other != index:
                        self.check_wrong(2, "tent", code, fraction, other, sign)
                self.check_wrong(1, "tent", code, fraction, len(code), sign)

    def test_fractions(self):
        for place, fraction in enumerate(NO_FRACTIONS + ABOVE_TWO):
            with self.subTest(place=place):
                self.check_wrong(0, "tent", "RLC", fraction, 2, 1)
                self.check_wrong(0, "tent", "C", fraction, 0, -1)
                self.check_wrong(0, "tent", "C", fraction, None, None)
        self.check_right("tent", "RLC", (2, 1), 2, -1)
        self.check_right("tent", "C", (2, 1), 0, -1)

    def test_indexes(self):
        for place, index in enumerate(NO_NUMBERS + [3, 4, 5]):
            with self.subTest(place=place):
                self.check_wrong(1, "tent", "RLC", (3, 2), index, 1)
                self.check_wrong(1, "tent", "RLC", (3, 2), index, None)
        # Here True and False would be the right index.
        self.check_wrong(1, "tent", "RC", (3, 2), True, -1)
        self.check_right("tent", "RC", (3, 2), 1, -1)
        self.check_wrong(1, "tent", "C", (3, 2), False, -1)
        self.check_right("tent", "C", (3, 2), 0, -1)

    def test_signs(self):
        for place, sign in enumerate([value for value in ANY_VALUES if not (type(value) is int and value in (-1, 1))]):
            with self.subTest(place=place):
                self.check_wrong(3, "tent", "RLC", (3, 2), 2, sign)
                self.check_wrong(3, "tent", "RLC", (5, 3), 2, sign)
                self.check_wrong(2, "tent", "RLC", (3, 2), 1, sign)
        self.check_wrong(3, "tent", "RLC", (3, 2), 2, True)
        self.check_wrong(3, "tent", "RLC", (3, 2), 2, -1)
        self.check_right("tent", "RLC", (5, 3), 2, -1)
        self.check_wrong(3, "tent", "RLC", (5, 3), 2, 1)
