from humpcodes.errors import InvalidWord, NotAdmissible
from humpcodes.strokes import image_after, itinerary, least_period
from humpcodes.words import is_realised, is_word, point_of_word, word_period
from tests import reference
from tests import reference_maps as maps
from tests.support import Cases
from tests.values import NO_ADMISSIBLE_CODES, NO_WORDS

SHORT = reference.admissible_up_to(6)
LONG = reference.long_codes(40, 6) + reference.long_codes(39, 4) + reference.long_codes(21, 4)
WORDS = [word for length in range(1, 8) for word in maps.all_words(length)]


class IsWordTest(Cases):
    def test_words(self):
        for word in WORDS + ["L" * 40, "R" * 40, "RL" * 20, "LR" * 19 + "R", "R" * 39]:
            self.assertIs(is_word(word), True, word)

    def test_lengths(self):
        for length in range(60):
            for letter in "LR":
                self.assertIs(is_word(letter * length), 1 <= length <= 40, length)

    def test_all_short_strings(self):
        for letters in (one + other + third for one in "LRClr " for other in "LRC" for third in ["L", "R", "C", ""]):
            self.assertIs(is_word(letters), "C" not in letters and letters == letters.strip().upper())

    def test_wrong_values(self):
        for place, value in enumerate(NO_WORDS):
            with self.subTest(place=place):
                self.assertIs(is_word(value), False)


class WordPeriodTest(Cases):
    def test_all_short_words(self):
        for word in WORDS:
            self.assertEqual(word_period(word), maps.word_period(word), word)

    def test_repetitions(self):
        for size in range(1, 41):
            part = "L" * (size - 1) + "R"
            for number in range(1, 40 // size + 1):
                self.assertEqual(word_period(part * number), size)
                self.assertEqual(word_period((part * number)[::-1]), size)

    def test_almost_repetitions(self):
        for size in (2, 3, 4, 5, 6, 8, 10, 12, 13, 18, 20):
            part = "L" * (size - 1) + "R"
            for number in range(2, 40 // size + 1):
                word = part * number
                for index in (0, size - 1, len(word) // 2, len(word) - 1):
                    changed = word[:index] + ("R" if word[index] == "L" else "L") + word[index + 1:]
                    self.assertEqual(word_period(changed), maps.word_period(changed), changed)
                self.assertEqual(word_period(word[:-1]), maps.word_period(word[:-1]))
                self.assertEqual(word_period(word[1:]), maps.word_period(word[1:]))
                self.assertEqual(word_period(word[2:] + "R"), maps.word_period(word[2:] + "R"))
        self.assertEqual(word_period("RLRLR"), 5)
        self.assertEqual(word_period("RLRLRLRR"), 8)
        self.assertEqual(word_period("LRRLRRLR"), 8)

    def test_all_divisors_of_forty(self):
        for size in (1, 2, 4, 5, 8, 10, 20, 40):
            part = ("R" + "L" * 39)[:size]
            self.assertEqual(word_period(part * (40 // size)), size)
        for size in (2, 3, 4, 6, 9, 12, 18, 36):
            self.assertEqual(word_period(("L" * (size - 1) + "R") * (36 // size)), size)

    def test_invalid_word(self):
        self.check_all_raise(InvalidWord, word_period, NO_WORDS)


class PointOfWordTest(Cases):
    def check_point(self, code, word):
        """The point of a realised word, by the definition."""
        point = point_of_word(code, word)
        period = maps.word_period(word)
        self.assertIs(is_realised(code, word), True, (code, word))
        path = maps.images(code, maps.number(point), period)
        self.assertEqual(path[-1], path[0], (code, word))
        self.assertEqual(len(set(path)), period, (code, word))
        letters = maps.itinerary(code, path[0], 80)
        self.assertEqual(letters, (word * 80)[:80], (code, word))
        return point

    def test_all_short_codes_and_words(self):
        for code in SHORT:
            for word in WORDS:
                expected = maps.point_of_word(code, word)
                found = point_of_word(code, word)
                self.assertEqual(found, None if expected is None else maps.pair(expected), (code, word))
                self.assertIs(is_realised(code, word), expected is not None, (code, word))
                if found is not None:
                    self.assertEqual(self.check_point(code, word), found)

    def test_codes_of_seven_letters(self):
        for code in reference.admissible_of(7):
            for word in WORDS[::7] + maps.all_words(8)[::11] + maps.all_words(12)[::331]:
                expected = maps.point_of_word(code, word)
                found = point_of_word(code, word)
                self.assertEqual(found, None if expected is None else maps.pair(expected), (code, word))

    def test_code_c(self):
        for word in WORDS + ["L" * 40, "R" * 40, "RL" * 20]:
            self.assertIs(is_realised("C", word), False)
            self.assertIsNone(point_of_word("C", word))

    def test_code_rc(self):
        for length in range(1, 41):
            self.assertEqual(point_of_word("RC", "R" * length), (1, 2))
            self.assertIs(is_realised("RC", "L" * length), False)
        for word in WORDS:
            self.assertIs(is_realised("RC", word), "L" not in word)

    def test_known_points(self):
        self.assertEqual(point_of_word("RLC", "R"), (4, 3))
        self.assertEqual(point_of_word("RLC", "RL"), (5, 3))
        self.assertEqual(point_of_word("RLC", "LR"), (2, 3))
        self.assertEqual(point_of_word("RLRC", "RL"), (5, 2))
        self.assertIsNone(point_of_word("RLC", "L"))
        self.assertIsNone(point_of_word("RLC", "LLR"))

    def test_words_of_the_code_itself(self):
        # The way of the even word follows the positions. Only if it is a
        # repetition there is another point that returns earlier.
        for code in SHORT[1:] + reference.admissible_of(8) + LONG:
            start = code[:-1]
            even, odd = [start + letter for letter in ("LR" if start.count("R") % 2 == 0 else "RL")]
            self.assertIs(is_realised(code, odd), False, code)
            self.assertIsNone(point_of_word(code, odd), code)
            half = code[:len(code) // 2 - 1] + "C" if len(code) % 2 == 0 else "C"
            self.assertIs(is_realised(code, even), reference.product(half, "RC") == code, code)
            if is_realised(code, even):
                self.assertEqual(len(self.check_point(code, even)), 2)

    def test_solutions_that_are_positions(self):
        for code in ("RLC", "RLLC", "RLRRC", "RLRRRC") + LONG[2:5]:
            start = code[:-1]
            word = start + ("L" if start.count("R") % 2 == 0 else "R")
            for index in range(len(word)):
                rotated = word[index:] + word[:index]
                self.assertIs(is_realised(code, rotated), False, (code, rotated))
                self.assertIsNone(point_of_word(code, rotated))
                if len(code) < 7:
                    ways = maps.closed_ways(code, rotated)
                    self.assertEqual([maps.solve(code, way).denominator for way in ways], [1])
        self.assertIs(is_realised("RLC", "RLR"), False)
        self.assertIs(is_realised("RLC", "RLRRLR"), False)
        self.assertIs(is_realised("RLLC", "RLR"), True)

    def test_words_of_lesser_codes(self):
        for code in SHORT + LONG[:5]:
            for other in reference.admissible_up_to(8)[1:]:
                if reference.compare(other, code) < 0:
                    self.check_point(code, other[:-1] + "L")
                    self.check_point(code, other[:-1] + "R")

    def test_long_words_of_long_codes(self):
        for code in LONG:
            for other in LONG + reference.long_codes(30, 5) + reference.long_codes(17, 5):
                if reference.compare(other, code) < 0:
                    for letter in "LR":
                        word = other[:-1] + letter
                        point = self.check_point(code, word)
                        self.assertEqual(itinerary(code, point, 2 * len(word)), word * 2)
                        self.assertEqual(image_after(code, point, len(word)), point)
                        self.assertEqual(least_period(code, point), maps.word_period(word))

    def test_rotations(self):
        for code in ("RLC", "RLLRC", "RLRRRC") + LONG[:4]:
            for word in ("R", "RL", "RLR", "RLRR", "RLLRR", "RLRRLRR", "RLRRRRRRLR", "RLRRRLRRRL"):
                point = point_of_word(code, word)
                for index in range(len(word)):
                    rotated = word[index:] + word[:index]
                    self.assertIs(is_realised(code, rotated), point is not None)
                    if point is not None:
                        self.assertEqual(point_of_word(code, rotated), image_after(code, point, index))

    def test_repetitions_have_the_same_point(self):
        for code in SHORT + LONG[:4]:
            for word in ("R", "RL", "LR", "RLR", "RLRR", "LLR", "RLLRR"):
                expected = point_of_word(code, word)
                for number in range(1, 40 // len(word) + 1):
                    self.assertEqual(point_of_word(code, word * number), expected, (code, word, number))

    def test_forty_letters(self):
        top = "R" + "L" * 38 + "C"
        for word in ("RL" * 20, "R" * 40, "RLLRR" * 8, "R" + "L" * 38 + "R", "RR" + "L" * 37 + "R", "RLRRR" * 7 + "RLLRL"):
            for code in (top,) + LONG[:6]:
                point = point_of_word(code, word)
                rotations = [word[index:] + word[:index] for index in range(len(word))]
                inside = (all(reference.compare_starts(rotation * 2, code) < 0 for rotation in rotations)
                          and all(reference.compare_starts(rotation * 2, code[1:]) > 0 for rotation in rotations))
                if point is not None:
                    self.assertTrue(inside, (code, word))
                    self.check_point(code, word)
                elif inside:
                    self.assertIn(code[:-1], [rotation[:-1] for rotation in rotations])

    def test_result(self):
        point = point_of_word("RLLC", "RLR")
        self.assertIs(type(point), tuple)
        self.assertEqual([type(entry) for entry in point], [int, int])

    def test_not_admissible(self):
        for function in (is_realised, point_of_word):
            for place, code in enumerate(NO_ADMISSIBLE_CODES):
                with self.subTest(function=function.__name__, place=place):
                    for word in ("R", "RLC", "", None, ["R"]):
                        self.check_raises(NotAdmissible, function, code, word)

    def test_invalid_word(self):
        for function in (is_realised, point_of_word):
            for place, word in enumerate(NO_WORDS):
                with self.subTest(function=function.__name__, place=place):
                    for code in ("C", "RC", "RLC", LONG[0]):
                        self.check_raises(InvalidWord, function, code, word)
