import itertools
import random
from fractions import Fraction

from humpcodes.errors import InvalidMark, NotAdmissible, UnknownName
from humpcodes.ladder import Ladder
from humpcodes.wrongs import InvalidFraction, InvalidSize, SameGrowth
from tests import reference
from tests import reference_growths as growths
from tests import test_workspace as spaces
from tests.values import HUGE, NO_FRACTIONS, NO_PERIODS, nested

TOP = "R" + "L" * 38 + "C"
NEXT_TO_TOP = "R" + "L" * 37 + "C"
NO_FACTORS = NO_PERIODS + [1, 1001, 1002, 10 ** 12, 10 ** 30, HUGE, "2", [2], (2,), nested(2, 8)]
FACTORS = [2, 3, 10, 10, 100, 1000]
FRACTIONS = [(101, 100), (11, 10), (6, 5), (5, 4), (4, 3), (3, 2), (8, 5), (13, 8), (5, 3), (9, 5), (2, 1), (5, 2)]


class LadderModel(spaces.Model):
    """The plain second workspace with a size, and with growths by their digits."""

    def __init__(self):
        super().__init__()
        self.number = 1
        self.stored_numbers = []

    def mark(self):
        wrong = super().mark()
        if wrong is None:
            self.stored_numbers.append(self.number)
        return wrong

    def back(self, number):
        wrong = super().back(number)
        if wrong is None:
            del self.stored_numbers[number + 1:]
            self.number = self.stored_numbers[number]
        return wrong

    def refine(self, factor):
        if type(factor) is not int or not 2 <= factor <= 1000 or factor * self.number > 10 ** 12:
            return InvalidSize, None, None
        self.number *= factor
        return None

    def growth_of(self, name):
        return growths.growth(self.code(name))

    def names(self):
        return sorted(name for name, _ in self.pairs)

    def growing_like(self, name):
        return [other for other in self.names() if other != name and self.growth_of(other) == self.growth_of(name)]

    def growth_ranking(self):
        found = sorted({self.growth_of(name) for name in self.names()})
        return [[name for name in self.names() if self.growth_of(name) == growth] for growth in found]

    def rungs(self):
        floors = {name: growths.floor(self.code(name), self.number) for name in self.names()}
        return [(floor, [name for name in self.names() if floors[name] == floor])
                for floor in sorted(set(floors.values()))]

    def between_fractions(self, low, high):
        # A growth above 1 is no fraction, so its digits tell the side.
        found = []
        for name in self.names():
            if self.growth_of(name) >= Fraction(*low) * growths.SCALE:
                if self.growth_of(name) < Fraction(*high) * growths.SCALE:
                    found.append(name)
        return found

    def wrong_wedge(self, first, second):
        wrong = self.wrong_sources(first, second)
        if wrong is None and self.growth_of(first) == self.growth_of(second):
            wrong = SameGrowth, None, None
        return wrong


class LadderCases(spaces.WorkspaceCases):
    kind = Ladder
    model = LadderModel

    def check_state(self, space, model):
        super().check_state(space, model)
        self.assertEqual(space.size(), model.number)
        self.assertIs(type(space.size()), int)
        self.assertEqual(space.growth_ranking(), model.growth_ranking())
        self.assertEqual(space.rungs(), model.rungs())
        for name in model.names():
            self.assertEqual(space.growing_like(name), model.growing_like(name))
        for name in ("a", "zz", "abcdefgh", "", None):
            if not model.known(name):
                self.check_error((UnknownName, "name", name), space.growing_like, name)

    def check_between(self, space, model, low, high):
        self.assertEqual(space.between_fractions(low, high), model.between_fractions(low, high), (low, high))

    def check_wedge(self, space, model, first, second):
        wrong = model.wrong_wedge(first, second)
        if wrong is not None:
            self.check_error(wrong, space.wedge, first, second)
            return
        found = space.wedge(first, second)
        self.assertEqual([type(found)] + [type(entry) for entry in found], [tuple, int, int])
        low, high = sorted([model.growth_of(first), model.growth_of(second)])
        self.assertTrue(low < Fraction(*found) * growths.SCALE < high)
        for a, b in growths.parents(found):
            self.assertFalse(b > 0 and low < Fraction(a, b) * growths.SCALE < high, (first, second))


# Everything that a workspace does, with the state of the ladder after it.

class LadderHistoryTest(LadderCases, spaces.HistoryTest):
    pass


class LadderNamesTest(LadderCases, spaces.NamesTest):
    pass


class LadderPutTest(LadderCases, spaces.PutTest):
    pass


class LadderMultiplyAndSplitTest(LadderCases, spaces.MultiplyAndSplitTest):
    pass


class LadderLimitsTest(LadderCases, spaces.LimitsTest):
    pass


class LadderMarksTest(LadderCases, spaces.MarksTest):
    pass


class LadderRankingTest(LadderCases, spaces.RankingTest):
    pass


class LongHistoryTest(LadderCases):
    CODES = list(reference.admissible_up_to(4)) + ["RLLRLC", "RLRRRC", "RLLRLRRLC"] + [TOP, NEXT_TO_TOP] * 2
    WRONG = ["", "A", None, 0, True, ["a"], ("a",), "nope", "abcdefghi"]

    def pick(self, source, names):
        return source.choice(names) if source.random() < 0.93 else source.choice(self.WRONG)

    def random_call(self, source, removals=2):
        names = ["a", "b", "c", "d", "e", "f", "g", "h", "abcdefgh", "i", "j", "k", "l", "m"]
        method = source.choice(["put"] * 5 + ["multiply"] * 4 + ["split"] * 3 + ["remove"] * removals + ["mark", "back"]
                               + ["refine"] * 3)
        if method == "put":
            code = source.choice(self.CODES) if source.random() < 0.9 else source.choice(["RRC", "", None, ["RC"], 1])
            return method, (self.pick(source, names), code)
        if method in ("multiply", "split"):
            return method, tuple(self.pick(source, names) for _ in range(3))
        if method == "remove":
            return method, (self.pick(source, names),)
        if method == "back":
            return method, (source.choice([0, 0, 1, 2, 3, 4, 5, 6, -1, True, None, "0"]),)
        if method == "refine":
            return method, (source.choice(FACTORS if source.random() < 0.8 else [0, 1, -2, True, 1001, None, "2"]),)
        return method, ()

    def check_questions(self, source, ladder, model):
        names = model.names() + ["nope", None]
        self.check_wedge(ladder, model, source.choice(names), source.choice(names))
        self.check_between(ladder, model, source.choice(FRACTIONS), source.choice(FRACTIONS))
        wrong = source.choice(NO_FRACTIONS)
        self.check_raises(InvalidFraction, ladder.between_fractions, wrong, (2, 1))
        self.check_raises(InvalidFraction, ladder.between_fractions, (3, 2), wrong)

    def test_long_histories(self):
        outcomes = set()
        for seed in range(16):
            source = random.Random(1000 + seed)
            ladder, model = Ladder(), LadderModel()
            for _ in range(250):
                method, arguments = self.random_call(source, seed % 4)
                wrong = self.do(ladder, model, method, *arguments)
                outcomes.add((method, wrong and wrong[0].__name__))
                self.check_questions(source, ladder, model)
                self.check_state(ladder, model)
        expected = {
            "put": [None, "InvalidName", "NameTaken", "NotAdmissible", "Full"],
            "multiply": [None, "InvalidName", "NameTaken", "UnknownName", "TooLong", "Full"],
            "split": [None, "InvalidName", "NameTaken", "UnknownName", "SameCode", "Neighbours", "TooLong", "Full"],
            "remove": [None, "UnknownName"], "mark": [None, "Full"], "back": [None, "InvalidMark"],
            "refine": [None, "InvalidSize"],
        }
        self.assertEqual(outcomes, {(method, wrong) for method, found in expected.items() for wrong in found})

    def test_two_ladders(self):
        source = random.Random(5)
        pairs = [(Ladder(), LadderModel()), (Ladder(), LadderModel())]
        for _ in range(150):
            for ladder, model in pairs:
                method, arguments = self.random_call(source)
                self.do(ladder, model, method, *arguments)
                for other, other_model in pairs:
                    self.check_state(other, other_model)

    def test_new_ladder_is_empty(self):
        other = Ladder()
        other.put("a", "RC")
        other.refine(10)
        other.mark()
        ladder = Ladder()
        self.assertEqual([ladder.names(), ladder.marks(), ladder.ranking(), ladder.growth_ranking(), ladder.rungs()],
                         [[], [], [], [], []])
        self.assertEqual(ladder.size(), 1)
        self.assertEqual(ladder.between_fractions((101, 100), (2, 1)), [])


class GrowthRankingTest(LadderCases):
    def test_equal_growths(self):
        ladder, model = self.filled(["RLLRLC", "RC", "RLC", "RLRRRC", "C", "RLC", "RLRC", "RLLRLRRLC", TOP])
        self.assertEqual(ladder.growth_ranking(), [["b", "e", "g"], ["d"], ["a", "c", "f", "h"], ["i"]])
        self.assertEqual(ladder.growing_like("a"), ["c", "f", "h"])
        self.assertEqual(ladder.growing_like("d"), [])
        self.assertEqual(ladder.growing_like("e"), ["b", "g"])
        self.check_state(ladder, model)

    def test_names_are_ascending(self):
        # The order of the codes would be another one.
        ladder = Ladder()
        for name, code in (("z", "RLC"), ("y", reference.product("RLC", "RC")), ("x", "C"), ("w", "RC"), ("v", "RLC"),
                           ("aa", reference.product("RLC", "RLC"))):
            ladder.put(name, code)
        self.assertEqual(ladder.ranking(), ["x", "w", "v", "z", "y", "aa"])
        self.assertEqual(ladder.growth_ranking(), [["w", "x"], ["aa", "v", "y", "z"]])
        self.assertEqual(ladder.growing_like("y"), ["aa", "v", "z"])
        self.assertEqual(ladder.rungs(), [(1, ["aa", "v", "w", "x", "y", "z"])])
        ladder.refine(2)
        self.assertEqual(ladder.rungs(), [(2, ["w", "x"]), (3, ["aa", "v", "y", "z"])])

    def test_long_codes(self):
        ladder, model = self.filled(reference.long_codes(40, 6) + reference.long_codes(39, 4) + (TOP, NEXT_TO_TOP))
        for factor in (10, 10, 1000, 1000, 100, 100):
            self.check_state(ladder, model)
            self.do(ladder, model, "refine", factor)
        self.check_state(ladder, model)
        self.assertEqual(ladder.size(), 10 ** 12)

    def test_unknown_names(self):
        for place, name in enumerate(spaces.NO_NAMES + ["c", "aa"]):
            with self.subTest(place=place):
                ladder, model = self.filled(["RC", "RLC"])
                self.check_error((UnknownName, "name", name), ladder.growing_like, name)
                self.check_state(ladder, model)


class BetweenFractionsTest(LadderCases):
    CODES = ["C", "RLRC", "RLRRRC", "RLC", "RLLRLC", "RLRRC", "RLLC", "RLLLC", TOP, "RLLRC", "RC", NEXT_TO_TOP]

    def test_all_pairs(self):
        ladder, model = self.filled(self.CODES)
        fractions = FRACTIONS + [(10 ** 12 + 1, 10 ** 12), (2 * 10 ** 12 - 3, 10 ** 12)]
        for low, high in itertools.product(fractions, repeat=2):
            self.check_between(ladder, model, low, high)
        self.check_state(ladder, model)

    def test_low_above_high_and_equal_ones(self):
        ladder, model = self.filled(self.CODES)
        for place, low in enumerate(FRACTIONS):
            for high in FRACTIONS[:place + 1]:
                self.assertEqual(ladder.between_fractions(low, high), [])
        self.assertEqual(ladder.between_fractions((HUGE + 1, HUGE), (HUGE, 7)),
                         [name for name in model.names() if model.growth_of(name) > growths.SCALE])
        self.assertEqual(ladder.between_fractions((2, 1), (5, 1)), [])

    def test_close_fractions(self):
        ladder, model = self.filled(["RLC", TOP, "RLLRLC"])
        self.assertEqual(ladder.between_fractions((21, 13), (34, 21)), ["a", "c"])
        self.assertEqual(ladder.between_fractions((34, 21), (2, 1)), ["b"])
        self.assertEqual(ladder.between_fractions((101, 100), (21, 13)), [])
        near = [growths.pair(Fraction(1618033988749 + more, 10 ** 12)) for more in (0, 1)]
        self.assertEqual(ladder.between_fractions(*near), ["a", "c"])

    def test_growth_one_is_never_between(self):
        ladder, _ = self.filled(["C", "RC", "RLRC", reference.least_code(32)])
        for low, high in itertools.product(FRACTIONS, repeat=2):
            self.assertEqual(ladder.between_fractions(low, high), [])

    def test_invalid_fraction(self):
        ladder, model = self.filled(["RC", "RLC"])
        for place, value in enumerate(NO_FRACTIONS):
            with self.subTest(place=place):
                self.check_raises(InvalidFraction, ladder.between_fractions, value, (3, 2))
                self.check_raises(InvalidFraction, ladder.between_fractions, (3, 2), value)
                self.check_raises(InvalidFraction, ladder.between_fractions, value, value)
                self.check_raises(InvalidFraction, Ladder().between_fractions, (3, 2), value)
        self.check_state(ladder, model)


class WedgeTest(LadderCases):
    def test_all_pairs(self):
        ladder, model = self.filled(BetweenFractionsTest.CODES)
        for first, second in itertools.product(model.names(), repeat=2):
            self.check_wedge(ladder, model, first, second)
        self.check_state(ladder, model)

    def test_known_ones(self):
        ladder, _ = self.filled(["RLC", "RC", "RLLRLC", "RLRRRC", TOP, NEXT_TO_TOP])
        self.assertEqual(ladder.wedge("a", "b"), (3, 2))
        self.assertEqual(ladder.wedge("b", "a"), (3, 2))
        self.assertEqual(ladder.wedge("a", "d"), (3, 2))
        self.assertEqual(ladder.wedge("b", "d"), (5, 4))
        over, under = ladder.wedge("e", "f")
        self.assertEqual(over, 2 * under - 1)

    def test_errors_in_their_order(self):
        ladder, model = self.filled(["RLC", "RLLRLC", "RC"])
        for place, name in enumerate(spaces.NO_NAMES + ["d", "aa"]):
            with self.subTest(place=place):
                wrong = UnknownName, "name", name
                self.check_error(wrong, ladder.wedge, name, "a")
                self.check_error(wrong, ladder.wedge, "a", name)
                self.check_error(wrong, ladder.wedge, name, "other")
                self.check_error((UnknownName, "name", "other"), ladder.wedge, "other", name)
        for first, second in (("a", "b"), ("b", "a"), ("a", "a"), ("c", "c")):
            self.check_raises(SameGrowth, ladder.wedge, first, second)
        self.check_state(ladder, model)


class RefineTest(LadderCases):
    def test_sizes(self):
        ladder, model = self.filled(["RLC", "RC", "RLLC", "RLLRLC"])
        size = 1
        for factor in (2, 1000, 3, 999, 5, 1000):
            self.assertIsNone(ladder.refine(factor))
            model.refine(factor)
            size *= factor
            self.assertEqual(ladder.size(), size)
            self.check_state(ladder, model)

    def test_greatest_size(self):
        ladder, model = self.filled(["RLC", "RC"])
        for _ in range(4):
            self.do(ladder, model, "refine", 1000)
        self.assertEqual(ladder.size(), 10 ** 12)
        for factor in (2, 3, 1000):
            self.check_raises(InvalidSize, ladder.refine, factor)
            self.assertEqual(ladder.size(), 10 ** 12)
        self.check_state(ladder, model)
        self.assertEqual(ladder.rungs(), [(10 ** 12, ["b"]), (1618033988749, ["a"])])

    def test_size_would_be_too_great(self):
        ladder, model = self.filled(["RLC", "RC"])
        for factor in (1000, 1000, 1000, 500):
            self.do(ladder, model, "refine", factor)
        for factor in (3, 4, 1000):
            self.check_raises(InvalidSize, ladder.refine, factor)
            self.check_state(ladder, model)
            self.assertEqual(ladder.size(), 5 * 10 ** 11)
        self.assertIsNone(ladder.refine(2))
        self.assertEqual(ladder.size(), 10 ** 12)

    def test_wrong_factors(self):
        ladder, model = self.filled(["RLC", "RC"])
        self.do(ladder, model, "refine", 7)
        for place, factor in enumerate(NO_FACTORS):
            with self.subTest(place=place):
                self.check_raises(InvalidSize, ladder.refine, factor)
                self.check_state(ladder, model)

    def test_one_rung_for_ever(self):
        ladder, model = self.filled(["RLC", "RLLRLC", "RC", "C", "RLRRRC", "RLRC"])
        for factor in (2, 3, 5, 7, 11, 13, 17, 19, 23, 29):
            self.do(ladder, model, "refine", factor)
            rungs = [names for _, names in ladder.rungs()]
            self.assertTrue(any({"a", "b"} <= set(names) for names in rungs))
            self.assertTrue(any({"c", "d", "f"} <= set(names) for names in rungs))
        self.assertEqual(rungs, [["c", "d", "f"], ["e"], ["a", "b"]])

    def test_different_rungs_stay_different(self):
        source = random.Random(8)
        for _ in range(20):
            ladder, _ = self.filled(source.sample(reference.admissible_up_to(9), 12))
            order = {}
            while ladder.size() < 10 ** 9:
                found = {name: floor for floor, names in ladder.rungs() for name in names}
                for one, other in itertools.combinations(sorted(found), 2):
                    if order.get((one, other), 0) != 0:
                        self.assertEqual((found[one] > found[other]) - (found[one] < found[other]), order[one, other])
                    order[one, other] = (found[one] > found[other]) - (found[one] < found[other])
                ladder.refine(source.choice([2, 3, 5, 10]))
            groups = ladder.growth_ranking()
            self.assertEqual(sorted(name for names in groups for name in names), ladder.names())


class SizeOfMarksTest(LadderCases):
    def test_return_restores_the_size(self):
        ladder, model = self.filled(["RLC", "RC"])
        self.do(ladder, model, "mark")
        self.do(ladder, model, "refine", 10)
        self.do(ladder, model, "put", "c", "RLLC")
        self.do(ladder, model, "mark")
        self.do(ladder, model, "refine", 100)
        self.assertEqual(ladder.size(), 1000)
        self.assertEqual(ladder.rungs(), [(1000, ["b"]), (1618, ["a"]), (1839, ["c"])])
        self.do(ladder, model, "back", 1)
        self.assertEqual(ladder.size(), 10)
        self.assertEqual(ladder.rungs(), [(10, ["b"]), (16, ["a"]), (18, ["c"])])
        self.do(ladder, model, "refine", 3)
        self.do(ladder, model, "back", 1)
        self.assertEqual(ladder.size(), 10)
        self.do(ladder, model, "back", 0)
        self.assertEqual(ladder.size(), 1)
        self.assertEqual([ladder.marks(), ladder.names()], [[0], ["a", "b"]])
        self.check_state(ladder, model)

    def test_return_from_the_greatest_size(self):
        ladder, model = self.filled(["RLC"])
        self.do(ladder, model, "refine", 2)
        self.do(ladder, model, "mark")
        for factor in (1000, 1000, 1000, 500):
            self.do(ladder, model, "refine", factor)
        self.check_raises(InvalidSize, ladder.refine, 2)
        self.do(ladder, model, "back", 0)
        self.assertEqual(ladder.size(), 2)
        self.do(ladder, model, "refine", 1000)
        self.check_state(ladder, model)

    def test_errors_keep_the_size(self):
        ladder, model = self.filled(["RLC"])
        for factor in (2, 3, 5, 7, 11, 13):
            self.do(ladder, model, "mark")
            self.do(ladder, model, "refine", factor)
        self.do(ladder, model, "mark")
        self.assertEqual(ladder.size(), 30030)
        self.check_raises(InvalidMark, ladder.back, 6)
        self.check_raises(NotAdmissible, ladder.put, "n", "RRC")
        self.check_state(ladder, model)
        for number, size in ((4, 210), (2, 6), (0, 1)):
            self.do(ladder, model, "back", number)
            self.assertEqual(ladder.size(), size)
            self.check_state(ladder, model)


class ChangedListsTest(LadderCases):
    def test_changed_lists(self):
        ladder, model = self.filled(["RLC", "RC", "RLC", "C", "RLLRLC"])
        ladder.mark()
        model.mark()
        self.check_new_list(ladder.names)
        self.check_new_list(ladder.marks)
        self.check_new_list(ladder.ranking)
        self.check_new_list(ladder.forced_by, "a")
        self.check_new_list(ladder.growth_ranking)
        self.check_new_list(ladder.growing_like, "a")
        self.check_new_list(ladder.rungs)
        self.check_new_list(ladder.between_fractions, (3, 2), (2, 1))
        for group in ladder.growth_ranking():
            group.clear()
        for _, names in ladder.rungs():
            names.append("changed")
        self.check_state(ladder, model)
        ladder.back(0)
        self.check_state(ladder, model)

    def test_kinds_of_values(self):
        ladder, _ = self.filled(["RLC", "RC", "RLC"])
        for rung in ladder.rungs():
            self.assertIs(type(rung), tuple)
            self.assertEqual([type(rung[0]), type(rung[1])], [int, list])
        self.assertEqual([type(group) for group in ladder.growth_ranking()], [list, list])
