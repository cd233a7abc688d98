import itertools

from humpcodes.cycles import count_laps, count_returns, cycles, realised_words
from humpcodes.errors import Infinite, InvalidCount, InvalidPeriod, NotAdmissible
from humpcodes.strokes import image, itinerary
from humpcodes.words import point_of_word
from tests import reference
from tests import reference_maps as maps
from tests.support import Cases
from tests.values import HUGE, NO_ADMISSIBLE_CODES, NO_PERIODS

SHORT = reference.admissible_up_to(7)
LONG = reference.long_codes(40, 5) + reference.long_codes(39, 3) + reference.long_codes(20, 3)
POWERS = tuple(reference.product_of(["RC"] * number) for number in range(6))
OVER_EIGHT = NO_PERIODS + [9, 10, 40, 10 ** 30, HUGE]
OVER_SIXTY = NO_PERIODS + [61, 62, 10000, 10 ** 30, HUGE]


def ends_in_rc(code):
    half = code[:len(code) // 2 - 1] + "C" if len(code) > 1 else "C"
    return reference.product(half, "RC") == code


class RealisedWordsTest(Cases):
    def test_short_codes(self):
        for code in SHORT:
            for length in range(1, 9):
                expected = [word for word in maps.ascending_words(length)
                            if maps.point_of_word(code, word) is not None]
                self.assertEqual(realised_words(code, length), expected, (code, length))

    def test_known_words(self):
        self.assertEqual(realised_words("RC", 1), ["R"])
        self.assertEqual(realised_words("RC", 2), [])
        self.assertEqual(realised_words("RLC", 1), ["R"])
        self.assertEqual(realised_words("RLRC", 2), ["LR", "RL"])
        self.assertEqual(realised_words("RLLC", 3), ["LLR", "LRR", "LRL", "RRL", "RLR", "RLL"])
        self.assertEqual(realised_words("RLC", 3), [])
        self.assertEqual(realised_words("RLLRC", 3), ["LLR", "LRR", "LRL", "RRL", "RLR", "RLL"])

    def test_c(self):
        for length in range(1, 9):
            self.assertEqual(realised_words("C", length), [])

    def test_forty_letters(self):
        for code in LONG:
            for length in (1, 2, 3, 4, 5, 8):
                expected = [word for word in maps.ascending_words(length) if point_of_word(code, word) is not None]
                self.assertEqual(realised_words(code, length), expected, (code, length))

    def test_all_words_of_the_greatest_code(self):
        top = "R" + "L" * 38 + "C"
        for length in range(2, 9):
            self.assertEqual(realised_words(top, length), maps.ascending_words(length))
        self.assertEqual(realised_words(top, 1), ["R"])

    def test_new_lists(self):
        for code in ("C", "RLC", "RLLRC"):
            for length in (1, 2, 5):
                self.check_new_list(realised_words, code, length)

    def test_not_admissible(self):
        for place, value in enumerate(NO_ADMISSIBLE_CODES):
            with self.subTest(place=place):
                for length in (1, 8, 0, 9, None):
                    self.check_raises(NotAdmissible, realised_words, value, length)

    def test_invalid_count(self):
        for place, length in enumerate(OVER_EIGHT):
            with self.subTest(place=place):
                for code in ("C", "RC", "RLC", LONG[0]):
                    self.check_raises(InvalidCount, realised_words, code, length)


class CyclesTest(Cases):
    def check_cycles(self, code, period, expected):
        if expected is None:
            self.check_raises(Infinite, cycles, code, period)
            return
        found = cycles(code, period)
        self.assertEqual(found, [[maps.pair(x) for x in cycle] for cycle in expected], (code, period))

    def test_short_codes(self):
        for code in SHORT:
            for period in range(1, 9):
                self.check_cycles(code, period, maps.cycles(code, period))

    def test_codes_of_eight_letters(self):
        for code in reference.admissible_of(8):
            for period in (1, 4, 7, 8):
                self.check_cycles(code, period, maps.cycles(code, period))

    def test_forty_letters(self):
        for code in LONG:
            for period in (1, 2, 3, 4, 7):
                found = cycles(code, period)
                points = [point for cycle in found for point in cycle]
                expected = [point_of_word(code, word) for word in realised_words(code, period)]
                self.assertEqual(sorted(points), sorted(expected))
                for cycle in found:
                    self.assertEqual(len(cycle), period)
                    self.assertEqual(maps.number(cycle[0]), max(maps.number(point) for point in cycle))
                    for point, following in zip(cycle, cycle[1:] + cycle[:1]):
                        self.assertEqual(image(code, point), following)
                greatest = [maps.number(cycle[0]) for cycle in found]
                self.assertEqual(greatest, sorted(greatest))

    def test_fixed_points_of_forty_letters(self):
        for code in LONG[:4] + POWERS[1:]:
            self.check_cycles(code, 1, maps.cycles(code, 1))

    def test_cycle_of_the_positions(self):
        for code in SHORT:
            if not ends_in_rc(code):
                cycle = cycles(code, len(code))[-1]
                self.assertEqual(cycle, [(place, 1) for place in reference.positions(code)])
                self.assertEqual(itinerary(code, cycle[0], len(code)), code)
        for code in LONG:
            for period in range(1, 6):
                for cycle in cycles(code, period):
                    self.assertNotIn(1, [under for _, under in cycle])

    def test_c(self):
        self.assertEqual(cycles("C", 1), [[(0, 1)]])
        for period in range(2, 9):
            self.assertEqual(cycles("C", period), [])

    def test_infinite(self):
        for code in reference.admissible_up_to(8) + LONG + POWERS:
            for period in range(1, 9):
                if ends_in_rc(code) and period == len(code):
                    self.check_raises(Infinite, cycles, code, period)
                else:
                    self.assertIs(type(cycles(code, period)), list)
        self.check_raises(Infinite, cycles, "RC", 2)
        self.check_raises(Infinite, cycles, "RLLRLC", 6)
        self.assertEqual(len(cycles("RLRRRC", 6)), 1)
        self.assertEqual(cycles("RC", 4), [])
        self.assertEqual(cycles("RC", 1), [[(1, 2)]])
        self.assertEqual(cycles("RLRC", 2), [[(5, 2), (1, 2)]])

    def test_new_lists(self):
        for code, period in (("C", 1), ("RLC", 3), ("RLLC", 4)):
            self.check_new_list(cycles, code, period)
            kept = [list(cycle) for cycle in cycles(code, period)]
            for cycle in cycles(code, period):
                cycle.reverse()
                cycle.append(None)
            self.assertEqual(cycles(code, period), kept)

    def test_not_admissible(self):
        for place, value in enumerate(NO_ADMISSIBLE_CODES):
            with self.subTest(place=place):
                for period in (1, 2, 8, 0, 9, None):
                    self.check_raises(NotAdmissible, cycles, value, period)

    def test_invalid_period(self):
        for place, period in enumerate(OVER_EIGHT):
            with self.subTest(place=place):
                for code in ("C", "RC", "RLRC", LONG[0]):
                    self.check_raises(InvalidPeriod, cycles, code, period)
        # Nor is it Infinite if the code of such a period ends in RC.
        self.check_raises(InvalidPeriod, cycles, POWERS[4], 16)
        self.check_raises(InvalidPeriod, cycles, reference.product("RLLLC", "RC"), 10)


class CountReturnsTest(Cases):
    def check_count(self, code, steps, expected):
        if expected is None:
            self.check_raises(Infinite, count_returns, code, steps)
        else:
            self.assertEqual(count_returns(code, steps), expected, (code, steps))

    def test_short_codes_by_their_points(self):
        for code in reference.admissible_up_to(8):
            for steps in range(1, 5):
                points = maps.fixed_points(code, steps)
                self.check_count(code, steps, None if points is None else len(points))

    def test_some_more_steps_by_their_points(self):
        for code in SHORT[::2]:
            for steps in range(5, 9):
                points = maps.fixed_points(code, steps)
                self.check_count(code, steps, None if points is None else len(points))

    def test_sum_of_cycles(self):
        for code in SHORT:
            for steps in range(1, 9):
                if not (ends_in_rc(code) and steps % len(code) == 0):
                    total = sum(period * len(cycles(code, period))
                                for period in range(1, steps + 1) if steps % period == 0)
                    self.assertEqual(count_returns(code, steps), total, (code, steps))

    def test_up_to_sixty_steps(self):
        for code in SHORT[::3] + LONG + POWERS:
            for steps in (1, 5, 12, 20, 21, 32, 39, 40, 59, 60):
                if ends_in_rc(code) and steps % len(code) == 0:
                    self.check_count(code, steps, None)
                else:
                    self.check_count(code, steps, maps.returns_by_ways(code, steps))

    def test_one_side_of_each_position(self):
        for code in reference.admissible_up_to(8)[1:]:
            if not ends_in_rc(code):
                for steps in range(1, 3 * len(code)):
                    expected = len(code) if steps % len(code) == 0 else 0
                    self.assertEqual(len(maps.side_ways(code, steps)), expected)

    def test_c(self):
        for steps in range(1, 61):
            self.assertEqual(count_returns("C", steps), 1)

    def test_rc(self):
        for steps in range(1, 61):
            self.check_count("RC", steps, 1 if steps % 2 == 1 else None)

    def test_known_numbers(self):
        # The numbers of Lucas.
        one, other = 1, 3
        for steps in range(1, 61):
            self.assertEqual(count_returns("RLC", steps), one)
            one, other = other, one + other

    def test_infinite(self):
        codes = reference.admissible_up_to(10) + LONG + POWERS
        for code in codes:
            for steps in (len(code), 2 * len(code), 3 * len(code), len(code) // 2, len(code) + 1, 60):
                if 1 <= steps <= 60:
                    if ends_in_rc(code) and steps % len(code) == 0:
                        self.check_raises(Infinite, count_returns, code, steps)
                    else:
                        self.assertGreater(count_returns(code, steps), 0)

    def test_not_admissible(self):
        for place, value in enumerate(NO_ADMISSIBLE_CODES):
            with self.subTest(place=place):
                for steps in (1, 60, 0, 61, None):
                    self.check_raises(NotAdmissible, count_returns, value, steps)

    def test_invalid_count(self):
        for place, steps in enumerate(OVER_SIXTY):
            with self.subTest(place=place):
                for code in ("C", "RC", "RLRC", LONG[0]):
                    self.check_raises(InvalidCount, count_returns, code, steps)


class CountLapsTest(Cases):
    def test_short_codes_by_their_turning_points(self):
        for code in reference.admissible_up_to(8):
            for steps in range(1, 5):
                expected = len(maps.turning_points(code, steps)) + 1
                self.assertEqual(count_laps(code, steps), expected, (code, steps))
                self.assertEqual(maps.monotone_parts(code, steps), expected, (code, steps))

    def test_some_more_steps_by_their_turning_points(self):
        for code in SHORT[::2]:
            for steps in range(5, 9):
                self.assertEqual(count_laps(code, steps), len(maps.turning_points(code, steps)) + 1, (code, steps))

    def test_up_to_sixty_steps(self):
        for code in SHORT[::3] + LONG + POWERS:
            for steps in (1, 2, 5, 12, 20, 21, 32, 39, 40, 59, 60):
                self.assertEqual(count_laps(code, steps), maps.laps_by_pieces(code, steps), (code, steps))

    def test_growth_signs(self):
        for code in SHORT[1::3] + LONG[-3:] + POWERS[1:5]:
            signs = maps.growth_signs(code)
            laps = {steps: count_laps(code, steps) for steps in range(len(code), 61)}
            for last in range(len(code), 62 - len(code)):
                total = sum(sign * laps[last + len(code) - 1 - index] for index, sign in enumerate(signs))
                self.assertEqual(total, 0, (code, last))

    def test_c_and_rc(self):
        for steps in range(1, 61):
            self.assertEqual(count_laps("C", steps), 1)
            self.assertEqual(count_laps("RC", steps), 1)

    def test_known_numbers(self):
        self.assertEqual([count_laps("RLC", steps) for steps in range(1, 9)], [2, 3, 5, 8, 13, 21, 34, 55])
        self.assertEqual([count_laps("RLRC", steps) for steps in range(1, 9)], list(range(2, 10)))
        top = "R" + "L" * 38 + "C"
        self.assertEqual([count_laps(top, steps) for steps in range(1, 31)], [2 ** steps for steps in range(1, 31)])

    def test_one_step(self):
        for code in reference.admissible_up_to(8)[2:] + LONG:
            self.assertEqual(count_laps(code, 1), 2)

    def test_not_admissible(self):
        for place, value in enumerate(NO_ADMISSIBLE_CODES):
            with self.subTest(place=place):
                for steps in (1, 60, 0, 61, None):
                    self.check_raises(NotAdmissible, count_laps, value, steps)

    def test_invalid_count(self):
        for place, steps in enumerate(OVER_SIXTY):
            with self.subTest(place=place):
                for code in ("C", "RC", "RLC", LONG[0]):
                    self.check_raises(InvalidCount, count_laps, code, steps)

    def test_laps_never_decrease(self):
        for code, steps in itertools.product(SHORT + LONG[:2], range(1, 20)):
            self.assertGreaterEqual(count_laps(code, steps + 1), count_laps(code, steps))
