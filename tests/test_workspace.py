import itertools
import random

from humpcodes.errors import (
    Full, InvalidMark, InvalidName, NameTaken, Neighbours, NotAdmissible, SameCode, TooLong, UnknownName,
)
from humpcodes.workspace import Workspace
from tests import reference
from tests.support import Cases
from tests.values import HUGE, NO_ADMISSIBLE_CODES, NO_STRINGS, nested

NO_NAME_STRINGS = [
    "", " ", "A", "a ", " a", "aB", "Ab", "abcdefghi", "a" * 9, "a" * 1000, "a1", "0", "1", "a_b", "_", "a-b", "a.b",
    "a\n", "\na", "a\x00", "`", "{", "a`", "{a", "@", "[", "Z", "\u00e4", "\u0430", "\u00df", "ab\u0131", "a b", "RLC",
    "None",
]
NO_NAMES = NO_STRINGS + NO_NAME_STRINGS + [["a"], ("a",), nested("a", 8), ["a", "b"], "ABC"]
NAMES = ["a", "b", "c", "d", "zz", "mark", "names", "abcdefgh", "z", "aa", "ab", "y", "x", "code"]
TOP = "R" + "L" * 38 + "C"


class Model:
    """A plain second workspace: a list of pairs, and copies of such lists as marks."""

    def __init__(self):
        self.pairs = []
        self.stored = []

    def code(self, name):
        return [code for other, code in self.pairs if other == name][0]

    def known(self, name):
        return type(name) is str and name in [other for other, _ in self.pairs]

    def wrong_name(self, name):
        if not (type(name) is str and 1 <= len(name) <= 8 and all("a" <= letter <= "z" for letter in name)):
            return InvalidName, "name", name
        if self.known(name):
            return NameTaken, "name", name
        return None

    def wrong_sources(self, first, second):
        for name in (first, second):
            if not self.known(name):
                return UnknownName, "name", name
        return None

    def add(self, name, code):
        if len(self.pairs) == 12:
            return Full, "limit", 12
        self.pairs.append((name, code))
        return None

    def put(self, name, code):
        wrong = self.wrong_name(name)
        if wrong is None and not is_admissible(code):
            wrong = NotAdmissible, None, None
        return wrong or self.add(name, code)

    def multiply(self, name, first, second):
        wrong = self.wrong_name(name) or self.wrong_sources(first, second)
        if wrong is None:
            whole = reference.product(self.code(first), self.code(second))
            wrong = (TooLong, None, None) if len(whole) > 40 else self.add(name, whole)
        return wrong

    def split(self, name, first, second):
        wrong = self.wrong_name(name) or self.wrong_sources(first, second)
        if wrong is not None:
            return wrong
        one, other = self.code(first), self.code(second)
        if one == other:
            return SameCode, None, None
        if reference.product(one, "RC") == other or reference.product(other, "RC") == one:
            return Neighbours, None, None
        inside = reference.shortest_between(one, other)
        return (TooLong, None, None) if len(inside) > 40 else self.add(name, inside)

    def remove(self, name):
        if not self.known(name):
            return UnknownName, "name", name
        self.pairs = [pair for pair in self.pairs if pair[0] != name]
        return None

    def mark(self):
        if len(self.stored) == 6:
            return Full, "limit", 6
        self.stored.append(list(self.pairs))
        return None

    def back(self, number):
        if type(number) is not int or number not in range(len(self.stored)):
            return InvalidMark, "number", number
        del self.stored[number + 1:]
        self.pairs = list(self.stored[number])
        return None

    def ranking(self):
        return [name for name, _ in sorted(self.pairs, key=lambda pair: (reference.key(pair[1]), pair[0]))]

    def forced_by(self, name):
        code = self.code(name)
        return [other for other in self.ranking()
                if other != name and reference.compare(self.code(other), code) <= 0]


def is_admissible(value):
    return (type(value) is str and 1 <= len(value) <= 40 and value[-1] == "C" and set(value[:-1]) <= {"L", "R"}
            and reference.is_admissible(value))


class WorkspaceCases(Cases):
    # The ladder is tested in the same way.
    kind = Workspace
    model = Model

    def check_error(self, wrong, method, *arguments):
        error, attribute, value = wrong
        with self.assertRaises(error) as caught:
            method(*arguments)
        self.assertIs(type(caught.exception), error)
        if attribute is not None:
            kept = getattr(caught.exception, attribute)
            self.assertIs(type(kept), type(value))
            self.assertEqual(kept, value)

    def check_state(self, space, model):
        names = sorted(name for name, _ in model.pairs)
        self.assertEqual(space.names(), names)
        self.assertEqual(space.marks(), list(range(len(model.stored))))
        self.assertEqual(space.ranking(), model.ranking())
        for name in names:
            self.assertEqual(space.code(name), model.code(name))
            self.assertEqual(space.forced_by(name), model.forced_by(name))
        for name in ("a", "zz", "abcdefgh", "", None):
            if name not in names:
                self.check_error((UnknownName, "name", name), space.code, name)
                self.check_error((UnknownName, "name", name), space.forced_by, name)

    def do(self, space, model, method, *arguments):
        """The call, with the result or error that the model tells."""
        number = len(model.stored)
        wrong = getattr(model, method)(*arguments)
        if wrong is not None:
            self.check_error(wrong, getattr(space, method), *arguments)
        else:
            result = getattr(space, method)(*arguments)
            if method == "mark":
                self.assertIs(type(result), int)
                self.assertEqual(result, number)
            else:
                self.assertIsNone(result)
        return wrong

    def filled(self, codes):
        """A workspace and a model with these codes under the names a, b, c, ..."""
        space, model = self.kind(), self.model()
        for name, code in zip("abcdefghijkl", codes):
            self.assertIsNone(self.do(space, model, "put", name, code))
        return space, model


class HistoryTest(WorkspaceCases):
    CODES = list(reference.admissible_up_to(4)) + ["RLLRLC", "RLRRRRC", reference.least_code(20)]
    # There are these twice, so that they meet each other often enough.
    CLOSE = [TOP, "R" + "L" * 37 + "C"] * 2
    WRONG = NO_NAME_STRINGS[:6] + [None, 0, True, ["a"], ("a",), "nope"]

    def random_call(self, source, removals=3):
        name = source.choice(NAMES) if source.random() < 0.9 else source.choice(self.WRONG)
        first = source.choice(NAMES) if source.random() < 0.95 else source.choice(self.WRONG)
        second = source.choice(NAMES) if source.random() < 0.95 else source.choice(self.WRONG)
        method = source.choice(["put"] * 4 + ["multiply"] * 3 + ["split"] * 3 + ["remove"] * removals + ["mark", "back"])
        if method == "put":
            code = source.choice(self.CODES + self.CLOSE) if source.random() < 0.9 else source.choice(NO_ADMISSIBLE_CODES)
            return method, (name, code)
        if method in ("multiply", "split"):
            return method, (name, first, second)
        if method == "remove":
            return method, (name,)
        if method == "back":
            return method, (source.choice([0, 0, 1, 2, 3, 4, 5, 6, -1, True, False, None, "0", 10 ** 30]),)
        return method, ()

    def test_long_histories(self):
        seen = {}
        for seed in range(16):
            source = random.Random(seed)
            space, model = self.kind(), self.model()
            for _ in range(400):
                method, arguments = self.random_call(source, seed % 4)
                wrong = self.do(space, model, method, *arguments)
                key = (method, wrong and wrong[0])
                seen[key] = seen.get(key, 0) + 1
                self.check_state(space, model)
        # The histories reach every outcome of every method.
        expected = {
            "put": [None, InvalidName, NameTaken, NotAdmissible, Full],
            "multiply": [None, InvalidName, NameTaken, UnknownName, TooLong, Full],
            "split": [None, InvalidName, NameTaken, UnknownName, SameCode, Neighbours, TooLong, Full],
            "remove": [None, UnknownName], "mark": [None, Full], "back": [None, InvalidMark],
        }
        self.assertEqual(set(seen), {(method, wrong) for method, all_wrong in expected.items() for wrong in all_wrong})

    def test_two_workspaces(self):
        one, other = self.kind(), self.kind()
        model, other_model = self.model(), self.model()
        source = random.Random(77)
        for _ in range(200):
            for space, plain in ((one, model), (other, other_model)):
                method, arguments = self.random_call(source)
                self.do(space, plain, method, *arguments)
                self.check_state(one, model)
                self.check_state(other, other_model)

    def test_new_workspace_is_empty(self):
        self.kind().put("a", "RC")
        space = self.kind()
        self.assertEqual([space.names(), space.marks(), space.ranking()], [[], [], []])


class NamesTest(WorkspaceCases):
    def test_names_that_are_allowed(self):
        for name in ["a", "z", "az", "abcdefgh", "zzzzzzzz", "m", "none", "true"]:
            space = self.kind()
            self.assertIsNone(space.put(name, "RLC"))
            self.assertEqual(space.names(), [name])
            self.assertEqual(space.code(name), "RLC")
        for letter in "abcdefghijklmnopqrstuvwxyz":
            for length in range(1, 10):
                wrong = None if length <= 8 else (InvalidName, "name", letter * length)
                self.assertEqual(self.model().wrong_name(letter * length), wrong)
                space = self.kind()
                if wrong is None:
                    space.put(letter * length, "C")
                else:
                    self.check_error(wrong, space.put, letter * length, "C")

    def test_invalid_names(self):
        for place, name in enumerate(NO_NAMES):
            with self.subTest(place=place):
                space, model = self.filled(["RC", "RLC"])
                for method, arguments in self.calls_with(name):
                    self.check_error((InvalidName, "name", name), getattr(space, method), *arguments)
                self.check_state(space, model)

    def calls_with(self, name):
        """Calls that store something under the name, right ones and wrong ones in their other arguments."""
        yield from [("put", (name, code)) for code in ("RC", "RRC", None)]
        for first, second in (("a", "b"), ("a", "x"), ("x", "b"), ("a", "a"), (None, ["b"])):
            yield "multiply", (name, first, second)
            yield "split", (name, first, second)

    def test_name_taken(self):
        space, model = self.filled(["RC", "RLC"])
        for name in ("a", "b"):
            for method, arguments in self.calls_with(name):
                self.check_error((NameTaken, "name", name), getattr(space, method), *arguments)
        self.check_state(space, model)

    def test_attribute_is_the_argument_itself(self):
        space = self.kind()
        value = ["a"]
        for method, arguments in (("put", (value, "RC")), ("remove", (value,)), ("code", (value,)),
                                  ("forced_by", (value,)), ("back", (value,)), ("split", (value, "a", "b"))):
            try:
                getattr(space, method)(*arguments)
            except (InvalidName, UnknownName) as error:
                self.assertIs(error.name, value)
            except InvalidMark as error:
                self.assertIs(error.number, value)
            else:
                self.fail(method)
        self.assertEqual(value, ["a"])

    def test_unknown_names(self):
        for place, name in enumerate(NO_NAMES + ["c", "ab", "aa"]):
            with self.subTest(place=place):
                space, model = self.filled(["RC", "RLC"])
                wrong = UnknownName, "name", name
                for method in (space.remove, space.code, space.forced_by):
                    self.check_error(wrong, method, name)
                for method in (space.multiply, space.split):
                    self.check_error(wrong, method, "n", name, "a")
                    self.check_error(wrong, method, "n", "a", name)
                    self.check_error(wrong, method, "n", name, "other")
                    self.check_error((UnknownName, "name", "other"), method, "n", "other", name)
                self.check_state(space, model)

    def test_removed_name_is_unknown_and_free(self):
        space, model = self.filled(["RC", "RLC"])
        self.do(space, model, "remove", "a")
        self.check_state(space, model)
        self.check_error((UnknownName, "name", "a"), space.remove, "a")
        self.do(space, model, "put", "a", "RLLC")
        self.check_state(space, model)
        self.assertEqual(space.code("a"), "RLLC")


class PutTest(WorkspaceCases):
    def test_codes(self):
        for code in reference.admissible_up_to(7) + reference.long_codes(40) + (TOP,):
            space = self.kind()
            self.assertIsNone(space.put("a", code))
            self.assertEqual(space.code("a"), code)

    def test_not_admissible(self):
        space, model = self.filled(["RC"] * 11)
        full, full_model = self.filled(["RC"] * 12)
        for place, code in enumerate(NO_ADMISSIBLE_CODES):
            with self.subTest(place=place):
                self.check_raises(NotAdmissible, space.put, "n", code)
                self.check_raises(NotAdmissible, full.put, "n", code)
        self.check_state(space, model)
        self.check_state(full, full_model)

    def test_earlier_errors_first(self):
        for codes in (["RC"] * 12, ["RC"] * 3):
            space, model = self.filled(codes)
            for name in ("n", "a", "A", "", None, ["a"]):
                for code in ("RLC", "RRC", "", None, "RL"):
                    wrong = self.do(space, model, "put", name, code)
                    self.check_state(space, model)
                    if wrong is None:
                        self.do(space, model, "remove", name)


class MultiplyAndSplitTest(WorkspaceCases):
    def test_all_errors_together(self):
        # Names: new, taken, invalid. Sources: known, unknown, no names at all.
        special = ["RLC", "RLLRLC", "RLC", TOP, reference.least_code(20), "R" + "L" * 37 + "C"]
        for filling in (["C"] * 6, []):
            outcomes = set()
            for method in ("multiply", "split"):
                for name in ("n", "a", "N", None):
                    for first, second in itertools.product(["a", "b", "c", "d", "e", "f", "q", None, ["a"]], repeat=2):
                        space, model = self.filled(special + filling)
                        wrong = self.do(space, model, method, name, first, second)
                        self.check_state(space, model)
                        outcomes.add((method, wrong and wrong[0]))
            last = Full if filling else None
            self.assertEqual(outcomes, {
                ("multiply", wrong) for wrong in (InvalidName, NameTaken, UnknownName, TooLong, last)
            } | {
                ("split", wrong) for wrong in (InvalidName, NameTaken, UnknownName, SameCode, Neighbours, TooLong, last)
            })

    def test_products(self):
        codes = reference.admissible_up_to(6)
        for first in codes[::2]:
            for second in codes:
                space = self.kind()
                space.put("a", first)
                space.put("b", second)
                self.assertIsNone(space.multiply("c", "a", "b"))
                self.assertEqual(space.code("c"), reference.product(first, second))

    def test_both_names_may_be_equal(self):
        space, model = self.filled(["RLC", "RLRRC"])
        self.do(space, model, "multiply", "s", "a", "a")
        self.assertEqual(space.code("s"), "RLLRLRRLC")
        self.check_error((SameCode, None, None), space.split, "t", "a", "a")
        self.check_state(space, model)

    def test_products_of_forty_letters(self):
        for one in (1, 2, 4, 5, 8, 10, 20, 40):
            space, model = self.filled([reference.least_code(one), "R" + "L" * (40 // one - 2) + "C" if one < 40 else "C"])
            self.assertIsNone(self.do(space, model, "multiply", "n", "a", "b"))
            self.assertEqual(len(space.code("n")), 40)
            self.check_state(space, model)
        for one, other in ((2, 21), (21, 2), (3, 14), (6, 7), (40, 2), (2, 40), (40, 40)):
            space, model = self.filled([reference.least_code(one), reference.least_code(other)])
            self.assertEqual(self.do(space, model, "multiply", "n", "a", "b")[0], TooLong)
            self.check_state(space, model)

    def test_splits(self):
        codes = reference.admissible_up_to(6)
        for first in codes:
            for second in codes[::2]:
                space, model = self.filled([first, second])
                self.do(space, model, "split", "n", "a", "b")
                self.check_state(space, model)

    def test_splits_of_forty_letters(self):
        one, other = "RLLLLRLRLLLRRLRRRRRC", "RLLLLRLRLLLRRLRRRRRRRLLLLRLRLLLRRLRRRC"
        space, model = self.filled([one, other, "R" + "L" * 37 + "C", TOP])
        self.do(space, model, "split", "n", "a", "b")
        self.assertEqual(len(space.code("n")), 40)
        self.assertEqual(self.do(space, model, "split", "m", "c", "d")[0], TooLong)
        self.check_state(space, model)


class LimitsTest(WorkspaceCases):
    def test_twelve_names(self):
        space, model = self.filled(["RC", "RLC"] * 6)
        self.assertEqual(len(space.names()), 12)
        for method, arguments in (("put", ("n", "RC")), ("multiply", ("n", "a", "b")), ("split", ("n", "a", "b"))):
            self.check_error((Full, "limit", 12), getattr(space, method), *arguments)
        self.check_state(space, model)
        self.do(space, model, "remove", "c")
        self.assertIsNone(self.do(space, model, "multiply", "n", "a", "b"))
        self.check_error((Full, "limit", 12), space.put, "m", "RC")
        self.check_state(space, model)

    def test_six_marks(self):
        space, model = self.filled(["RC"])
        for number in range(6):
            self.assertEqual(space.mark(), number)
            model.mark()
        self.check_error((Full, "limit", 6), space.mark)
        self.assertEqual(space.marks(), [0, 1, 2, 3, 4, 5])
        self.check_state(space, model)
        self.do(space, model, "back", 3)
        self.assertEqual(space.marks(), [0, 1, 2, 3])
        self.assertEqual([space.mark(), space.mark()], [4, 5])
        self.check_error((Full, "limit", 6), space.mark)

    def test_return_makes_room(self):
        space, model = self.filled(["RC"])
        self.do(space, model, "mark")
        for name in "bcdefghijkl":
            self.do(space, model, "put", name, "RLC")
        self.check_error((Full, "limit", 12), space.put, "n", "C")
        self.do(space, model, "back", 0)
        self.assertEqual(space.names(), ["a"])
        self.do(space, model, "put", "n", "C")
        self.check_state(space, model)

    def test_return_to_a_full_mark(self):
        space, model = self.filled(["RC", "RLC"] * 6)
        self.do(space, model, "mark")
        for name in "abc":
            self.do(space, model, "remove", name)
        self.do(space, model, "back", 0)
        self.check_error((Full, "limit", 12), space.put, "n", "C")
        self.check_state(space, model)


class MarksTest(WorkspaceCases):
    def test_invalid_marks(self):
        values = NO_STRINGS + ["", "0", "1", "mark", 2, 3, 5, 6, -1, -2, [0], (0,), [], True, False, HUGE, None]
        space, model = self.filled(["RC", "RLC"])
        space.mark()
        space.mark()
        model.mark()
        model.mark()
        space.put("later", "C")
        model.put("later", "C")
        for place, number in enumerate(values):
            if type(number) is int and number in (0, 1):
                continue
            with self.subTest(place=place):
                self.check_error((InvalidMark, "number", number), space.back, number)
                self.check_state(space, model)

    def test_no_marks(self):
        space = self.kind()
        for number in (0, 1, -1, True, False, None):
            self.check_error((InvalidMark, "number", number), space.back, number)
        self.assertEqual(space.marks(), [])

    def test_mark_stays_and_later_ones_go(self):
        space, model = self.filled(["RC"])
        for name in "bcde":
            self.do(space, model, "mark")
            self.do(space, model, "put", name, "RLC")
        for number in (3, 3, 1, 1, 0, 0):
            self.assertIsNone(self.do(space, model, "back", number))
            self.assertEqual(space.marks(), list(range(number + 1)))
            self.check_state(space, model)
        self.check_error((InvalidMark, "number", 1), space.back, 1)
        self.assertEqual(space.mark(), 1)

    def test_later_changes_do_not_change_a_mark(self):
        space, model = self.filled(["RC", "RLC"])
        self.do(space, model, "mark")
        for _ in range(3):
            self.do(space, model, "remove", "a")
            self.do(space, model, "put", "c", "RLLC")
            self.do(space, model, "put", "a", "RLLLC")
            self.check_state(space, model)
            self.do(space, model, "back", 0)
            self.check_state(space, model)
            self.assertEqual(space.names(), ["a", "b"])
            self.assertEqual(space.code("a"), "RC")

    def test_mark_of_nothing(self):
        space = self.kind()
        self.assertEqual(space.mark(), 0)
        space.put("a", "RC")
        space.back(0)
        self.assertEqual(space.names(), [])
        self.assertEqual(space.marks(), [0])

    def test_marks_after_a_return(self):
        space, model = self.filled(["RC"])
        self.do(space, model, "mark")
        self.do(space, model, "put", "b", "RLC")
        self.do(space, model, "mark")
        self.do(space, model, "back", 0)
        self.do(space, model, "put", "c", "RLLC")
        self.do(space, model, "mark")
        self.do(space, model, "remove", "a")
        self.do(space, model, "back", 1)
        self.check_state(space, model)
        self.assertEqual(space.names(), ["a", "c"])


class RankingTest(WorkspaceCases):
    def test_equal_codes(self):
        space, model = self.kind(), self.model()
        for name, code in (("d", "RLC"), ("b", "RC"), ("c", "RLC"), ("a", "RLLC"), ("e", "RC"), ("z", "C")):
            self.do(space, model, "put", name, code)
        self.assertEqual(space.ranking(), ["z", "b", "e", "c", "d", "a"])
        self.assertEqual(space.forced_by("c"), ["z", "b", "e", "d"])
        self.assertEqual(space.forced_by("d"), ["z", "b", "e", "c"])
        self.assertEqual(space.forced_by("b"), ["z", "e"])
        self.assertEqual(space.forced_by("z"), [])
        self.assertEqual(space.forced_by("a"), ["z", "b", "e", "c", "d"])
        self.check_state(space, model)

    def test_names_are_ascending(self):
        space = self.kind()
        for name in ("b", "ab", "aab", "a", "aa", "ba"):
            space.put(name, "RLC")
        self.assertEqual(space.names(), ["a", "aa", "aab", "ab", "b", "ba"])
        self.assertEqual(space.ranking(), ["a", "aa", "aab", "ab", "b", "ba"])

    def test_long_codes(self):
        codes = reference.long_codes(40, 6) + reference.long_codes(39, 6)
        space, model = self.filled(codes)
        self.check_state(space, model)
        self.assertEqual([space.code(name) for name in space.ranking()], sorted(codes, key=reference.key))

    def test_changed_lists(self):
        space, model = self.filled(["RLC", "RC", "RLC", "C"])
        space.mark()
        model.mark()
        self.check_new_list(space.names)
        self.check_new_list(space.marks)
        self.check_new_list(space.ranking)
        self.check_new_list(space.forced_by, "a")
        for result in (space.names(), space.marks(), space.ranking(), space.forced_by("a")):
            result.clear()
        self.check_state(space, model)
        space.back(0)
        self.check_state(space, model)
