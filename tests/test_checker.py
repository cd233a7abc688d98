import copy

from humpcodes.checker import check
from humpcodes.errors import NotACertificate, NotACode, NotAdmissible
from tests import reference
from tests import reference_maps as maps
from tests.support import Cases
from tests.values import (
    HUGE, NO_ADMISSIBLE_CODES, NO_CODES, NO_PERIODS, NO_POINTS, NO_WORDS, NOT_ADMISSIBLE, nested,
)

RIGHT = ("right",)
CODES = reference.admissible_up_to(6)
LONG = reference.long_codes(40, 4) + reference.long_codes(20, 3)
TOP = "R" + "L" * 38 + "C"
ANY_VALUES = NO_CODES + NO_PERIODS + NO_POINTS + NO_WORDS + [(0, 1), "C", "RC", "RLC", "R", 1, 3]

# Right certificates of each kind, with the places of the entries that are checked before.
SAMPLES = [
    (("not admissible", "RRC", 1), (1,), NotACode),
    (("product", "RLRC", ["RC", "RC"]), (1,), NotACode),
    (("between", "RC", "RLC", "RLRC"), (1, 2), NotAdmissible),
    (("neighbours", "RC", "RLRC"), (1, 2), NotAdmissible),
    (("point", "RLC", (5, 3), "RL"), (1,), NotAdmissible),
    (("no period", "RLRRC", 3), (1,), NotAdmissible),
]


def product_is(code, parts):
    whole = "C"
    for part in parts:
        if len(whole) * len(part) > 40:
            return False
        whole = reference.product(whole, part)
    return whole == code


class CheckCases(Cases):
    def check_right(self, *certificate):
        self.assertEqual(check(certificate), RIGHT, certificate)

    def check_wrong(self, number, *certificate):
        found = check(certificate)
        self.assertEqual(found, ("wrong", number))
        self.assertEqual([type(found), type(found[1])], [tuple, int])


class FormTest(CheckCases):
    def test_samples(self):
        for certificate, _, _ in SAMPLES:
            self.assertEqual(check(certificate), RIGHT)
            self.assertIs(type(check(certificate)), tuple)

    def test_no_tuples(self):
        for place, value in enumerate(ANY_VALUES):
            with self.subTest(place=place):
                self.check_raises(NotACertificate, check, value)
        for certificate, _, _ in SAMPLES:
            self.check_raises(NotACertificate, check, list(certificate))
            self.check_raises(NotACertificate, check, [certificate])
            self.check_raises(NotACertificate, check, (certificate,))
            self.check_raises(NotACertificate, check, certificate[0])
        self.check_raises(NotACertificate, check, ())

    def test_one_entry_less_or_more(self):
        for certificate, _, _ in SAMPLES:
            for size in range(len(certificate)):
                self.check_raises(NotACertificate, check, certificate[:size])
            for more in (None, "C", "RLC", 1, (), certificate[-1]):
                self.check_raises(NotACertificate, check, certificate + (more,))
            self.check_raises(NotACertificate, check, certificate + certificate)
            self.check_raises(NotACertificate, check, certificate[1:])

    def test_other_beginnings(self):
        others = ["", "Product", "products", " product", "product ", "PRODUCT", "not", "not_admissible", "admissible",
                  "notadmissible", "betwee", "neighbour", "neighbors", "Point", "no  period", "no", "period", "right",
                  "wrong", "tent", "upper"]
        for certificate, _, _ in SAMPLES:
            for place, first in enumerate(others + ANY_VALUES + [["product"], ("product",), nested("point", 7)]):
                with self.subTest(kind=certificate[0], place=place):
                    self.check_raises(NotACertificate, check, (first,) + certificate[1:])

    def test_kind_of_another_size(self):
        self.check_raises(NotACertificate, check, ("between", "RC", "RLC"))
        self.check_raises(NotACertificate, check, ("neighbours", "RC", "RLRC", "RLC"))
        self.check_raises(NotACertificate, check, ("point", "RLC", (5, 3)))
        self.check_raises(NotACertificate, check, ("no period", "RLC", 3, 3))

    def test_form_before_the_entries(self):
        for value in NO_CODES[:20]:
            self.check_raises(NotACertificate, check, ("product", value))
            self.check_raises(NotACertificate, check, ("point", value, value))
            self.check_raises(NotACertificate, check, ("between", value, value, value, value))

    def test_entries_that_are_checked_before(self):
        for certificate, places, error in SAMPLES:
            wrong = NO_CODES if error is NotACode else NO_ADMISSIBLE_CODES
            for place in places:
                for number, value in enumerate(wrong):
                    with self.subTest(kind=certificate[0], place=place, number=number):
                        changed = certificate[:place] + (value,) + certificate[place + 1:]
                        self.check_raises(error, check, changed)
                        # An error of these entries comes before all conditions.
                        for rest in (None, [], "R", 0, value):
                            changed = certificate[:place] + (value,) + (rest,) * (len(certificate) - place - 1)
                            self.check_raises(error, check, changed)

    def test_codes_that_are_not_admissible(self):
        for code in NOT_ADMISSIBLE:
            self.check_right("product", code, [code])
            self.check_right("not admissible", code, reference.greater_tail(code))
            self.check_raises(NotAdmissible, check, ("point", code, (0, 1), "R"))
            self.check_raises(NotAdmissible, check, ("no period", code, 3))
            self.check_raises(NotAdmissible, check, ("neighbours", "RLC", code))
            self.check_raises(NotAdmissible, check, ("between", code, "RLC", "RC"))
            self.check_raises(NotAdmissible, check, ("between", "RLC", code, "RC"))
            self.check_wrong(0, "between", "RLC", "RC", code)

    def test_any_value_in_the_other_places(self):
        # A list of codes is a list of parts, all other values are wrong somewhere.
        for certificate, places, _ in SAMPLES:
            for place in range(1, len(certificate)):
                if place in places:
                    continue
                for number, value in enumerate(ANY_VALUES):
                    with self.subTest(kind=certificate[0], place=place, number=number):
                        kept = copy.deepcopy(value)
                        found = check(certificate[:place] + (value,) + certificate[place + 1:])
                        self.assertIn(found, (RIGHT, ("wrong", 0), ("wrong", 1)))
                        self.assertEqual(value, kept)


class NotAdmissibleTest(CheckCases):
    def test_all_small_codes(self):
        for code in [code for period in range(1, 7) for code in reference.all_codes(period)]:
            for index in range(-3, 9):
                if not 1 <= index < len(code):
                    self.check_wrong(0, "not admissible", code, index)
                elif reference.compare(code[index:], code) > 0:
                    self.check_right("not admissible", code, index)
                else:
                    self.check_wrong(1, "not admissible", code, index)

    def test_not_only_the_first_tail(self):
        self.check_right("not admissible", "LLLC", 1)
        self.check_right("not admissible", "LLLC", 3)
        self.check_right("not admissible", "LRLC", 1)
        self.check_right("not admissible", "RRRRC", 3)
        self.check_wrong(1, "not admissible", "RRRRC", 4)

    def test_edges(self):
        self.check_wrong(0, "not admissible", "LC", 0)
        self.check_right("not admissible", "LC", 1)
        self.check_wrong(0, "not admissible", "LC", 2)
        self.check_wrong(0, "not admissible", "LC", -1)
        for code in LONG:
            for index in (1, 2, len(code) - 1):
                self.check_wrong(1, "not admissible", code, index)
            self.check_wrong(0, "not admissible", code, 0)
            self.check_wrong(0, "not admissible", code, len(code))
        self.check_wrong(0, "not admissible", "C", 1)
        self.check_wrong(0, "not admissible", "C", 0)

    def test_values(self):
        for place, value in enumerate(NO_PERIODS + [True, False, "1", 1 << 70, HUGE, -HUGE]):
            with self.subTest(place=place):
                self.check_wrong(0, "not admissible", "RRC", value)


class ProductTest(CheckCases):
    def test_products(self):
        codes = [code for period in range(1, 5) for code in reference.all_codes(period)]
        for first in codes:
            for second in codes:
                whole = reference.product(first, second)
                self.check_right("product", whole, [first, second])
                self.check_right("product", whole, [whole])
                self.check_right("product", whole, ["C", first, "C", second, "C"])
                expected = reference.product(second, first) == whole
                self.assertEqual(check(("product", whole, [second, first])), RIGHT if expected else ("wrong", 1))

    def test_many_parts(self):
        lists = [[], ["C"], ["C"] * 100, ["RC"] * 5, ["RLC", "RC", "RLC"], ["RC", "RLC", "RC"], ["LC", "LLC", "RRC"],
                 ["RLLC", "C", "RLLC"], ["RC"] * 2 + ["C"] * 50, [TOP, "C"]]
        for parts in lists:
            whole = reference.product_of(parts)
            for code in [whole, "C", "RC", "RLC", TOP]:
                expected = RIGHT if product_is(code, parts) else ("wrong", 1)
                self.assertEqual(check(("product", code, parts)), expected, (code, parts))
        self.check_right("product", "C", [])
        self.check_wrong(1, "product", "RC", [])
        self.check_wrong(1, "product", "LC", [])

    def test_too_long(self):
        self.check_wrong(1, "product", TOP, [TOP, "RC"])
        self.check_wrong(1, "product", TOP, ["RC", TOP])
        self.check_wrong(1, "product", TOP, [TOP, TOP])
        self.check_wrong(1, "product", TOP, [TOP] * 1000)
        self.check_wrong(1, "product", "C", ["RC"] * 1000)
        self.check_wrong(1, "product", "RLRC", ["RC"] * 60)
        self.check_wrong(1, "product", "RC", ["RLLLLLC", "RLLLLC"])
        self.check_wrong(1, "product", reference.least_code(32), ["RC"] * 6)
        self.check_right("product", reference.least_code(32), ["RC"] * 5)

    def test_order_of_the_parts(self):
        self.check_right("product", "RLLRLC", ["RLC", "RC"])
        self.check_wrong(1, "product", "RLLRLC", ["RC", "RLC"])
        self.check_right("product", "RLRRRC", ["RC", "RLC"])

    def test_parts_that_are_no_list_of_codes(self):
        values = [("RC", "RC"), "RC", "RLRC", None, True, False, 0, 2, ("RLRC",), ()]
        values += [value for value in ANY_VALUES if not isinstance(value, list)]
        for place, value in enumerate(values):
            with self.subTest(place=place):
                self.check_wrong(0, "product", "RLRC", value)
                self.check_wrong(0, "product", "C", value)
        for place, value in enumerate(NO_CODES):
            with self.subTest(place=place):
                self.check_wrong(0, "product", "RLRC", [value])
                self.check_wrong(0, "product", "RLRC", ["RC", "RC", value])
                self.check_wrong(0, "product", "RLRC", [value, "RC", "RC"])
                # The first condition comes before the length of the product.
                self.check_wrong(0, "product", "RLRC", [TOP, TOP, value])
        self.check_wrong(0, "product", "RLRC", [["RC", "RC"]])
        self.check_wrong(0, "product", "RLRC", [("RC", "RC")])

    def test_argument_is_not_modified(self):
        for parts in (["RC", "RC"], ["RC", "L"], [TOP, TOP], []):
            kept = list(parts)
            check(("product", "RLRC", parts))
            self.assertEqual(parts, kept)


class BetweenTest(CheckCases):
    def test_small_codes(self):
        for first in CODES:
            for second in CODES:
                for code in CODES[::2]:
                    if first != second and reference.is_between(code, first, second):
                        self.check_right("between", first, second, code)
                    else:
                        self.check_wrong(1, "between", first, second, code)

    def test_edges(self):
        self.check_right("between", "RLC", "RC", "RLRC")
        self.check_right("between", "RC", "RLC", "RLRC")
        for code in ("RC", "RLC", "C", "RLLC", TOP):
            self.check_wrong(1, "between", "RC", "RLC", code)
            self.check_wrong(1, "between", "RLC", "RC", code)
            self.check_wrong(1, "between", "RLC", "RLC", code)
        # It need not be the shortest one.
        self.check_right("between", "RC", TOP, reference.least_code(39))

    def test_codes_that_are_not_admissible(self):
        for place, value in enumerate(NO_ADMISSIBLE_CODES):
            with self.subTest(place=place):
                self.check_wrong(0, "between", "RC", "RLC", value)
                self.check_wrong(0, "between", "RC", "RC", value)
        for code in NOT_ADMISSIBLE:
            self.check_wrong(0, "between", "C", TOP, code)


class NeighboursTest(CheckCases):
    def test_small_codes(self):
        for first in CODES:
            for second in reference.admissible_up_to(8):
                expected = reference.product(first, "RC") == second or reference.product(second, "RC") == first
                self.assertEqual(check(("neighbours", first, second)), RIGHT if expected else ("wrong", 0))
                self.assertEqual(check(("neighbours", second, first)), RIGHT if expected else ("wrong", 0))

    def test_long_codes(self):
        for code in reference.long_codes(20):
            self.check_right("neighbours", code, reference.product(code, "RC"))
            self.check_right("neighbours", reference.product(code, "RC"), code)
        for code in LONG + (TOP, "C"):
            self.check_wrong(0, "neighbours", code, code)
        self.check_wrong(0, "neighbours", "RLC", reference.product("RC", "RLC"))


class PointTest(CheckCases):
    def test_small_codes(self):
        for code in reference.admissible_up_to(5):
            for under in range(1, 6):
                for over in range((len(code) - 1) * under + 2):
                    for word in ("R", "RL", "LR", "RRL", "RLR", "RR", "RLRR"):
                        self.check_one(code, (over, under), word)

    def check_one(self, code, point, word):
        x = maps.number(point)
        if maps.pair(x) != point or not 0 <= x <= len(code) - 1:
            self.check_wrong(0, "point", code, point, word)
            return
        path = maps.images(code, x, len(word))
        good = maps.itinerary(code, x, len(word)) == word and path[-1] == x
        self.assertEqual(check(("point", code, point, word)), RIGHT if good else ("wrong", 1), (code, point, word))

    def test_points_of_words(self):
        for code in CODES[1:]:
            for word in [word for length in range(1, 7) for word in maps.all_words(length)]:
                x = maps.point_of_word(code, word)
                if x is not None:
                    self.check_right("point", code, maps.pair(x), word)
                    self.check_right("point", code, maps.pair(x), word * 2)
                    other = word[:-1] + ("R" if word[-1] == "L" else "L")
                    self.check_wrong(1, "point", code, maps.pair(x), other)
                    if maps.word_period(word) > 1:
                        self.check_wrong(1, "point", code, maps.pair(x), word + word[0])

    def test_each_part_of_the_second_condition(self):
        # The letters agree, but the point does not return; it returns, but the letters do not agree.
        self.check_wrong(1, "point", "RLC", (5, 3), "R")
        self.check_wrong(1, "point", "RLC", (5, 3), "RLR")
        self.check_wrong(1, "point", "RLC", (5, 3), "RR")
        self.check_wrong(1, "point", "RLC", (3, 2), "R")
        self.check_right("point", "RLC", (5, 3), "RLRL")
        self.check_right("point", "RC", (1, 3), "RR")
        self.check_wrong(1, "point", "RC", (1, 3), "R")
        self.check_right("point", "RC", (1, 2), "R")

    def test_positions(self):
        for code in CODES + LONG:
            for place in range(len(code)):
                for word in (code[:-1] + "L" if len(code) > 1 else "L", "R", "L"):
                    self.check_wrong(1, "point", code, (place, 1), word)

    def test_no_points_and_no_words(self):
        for code in ("C", "RC", "RLC", LONG[0]):
            for place, value in enumerate(NO_POINTS):
                with self.subTest(code=code, place=place):
                    self.check_wrong(0, "point", code, value, "R")
                    self.check_wrong(0, "point", code, value, None)
            for place, value in enumerate(NO_WORDS):
                with self.subTest(code=code, place=place):
                    self.check_wrong(0, "point", code, (0, 1), value)
                    self.check_wrong(0, "point", code, None, value)
        self.check_wrong(0, "point", "RLC", [5, 3], "RL")
        self.check_wrong(0, "point", "RLC", (10, 6), "RL")
        self.check_wrong(0, "point", "RLC", (5, 2), "RL")
        self.check_wrong(0, "point", "RLC", (5, 3), ["R", "L"])
        self.check_wrong(0, "point", "RLC", (5, 3), "RLC")
        self.check_wrong(0, "point", "RLC", (5, 3), "RL" * 21)
        self.check_right("point", "RLC", (5, 3), "RL" * 20)


class NoPeriodTest(CheckCases):
    def test_all_periods(self):
        for code in CODES + LONG + tuple(reference.least_code(period) for period in range(1, 41)):
            for period in range(1, 41):
                if reference.compare(reference.least_code(period), code) > 0:
                    self.check_right("no period", code, period)
                else:
                    self.check_wrong(1, "no period", code, period)

    def test_against_the_points(self):
        for code in CODES:
            for period in range(1, 7):
                found = maps.cycles(code, period)
                self.assertEqual(check(("no period", code, period)), RIGHT if found == [] else ("wrong", 1))

    def test_values(self):
        for place, value in enumerate(NO_PERIODS + [41, 42, 1000, 10 ** 30, HUGE, True, False, 0, -1]):
            with self.subTest(place=place):
                for code in ("C", "RLC", TOP):
                    self.check_wrong(0, "no period", code, value)
