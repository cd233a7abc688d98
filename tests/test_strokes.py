from math import gcd

from humpcodes.errors import InvalidCount, InvalidPoint, NotAdmissible, TooLong
from humpcodes.strokes import image, image_after, is_point, itinerary, least_period, orbit
from tests import reference
from tests import reference_maps as maps
from tests.support import Cases
from tests.values import HUGE, NO_ADMISSIBLE_CODES, NO_COUNTS, NO_POINTS

SHORT = reference.admissible_up_to(6)
LONG = reference.long_codes(40, 5) + reference.long_codes(39, 3) + reference.long_codes(21, 3)
NO_STEPS = NO_COUNTS + [10001, 10002, 10 ** 30, HUGE]


def points_of(code, under):
    """All points with the denominator."""
    return [(over, under) for over in range((len(code) - 1) * under + 1) if gcd(over, under) == 1]


def small_points(code, limit):
    return [point for under in range(1, limit + 1) for point in points_of(code, under)]


def fine_points(code, under):
    """Points with a large denominator: close to both ends of each piece and inside of it."""
    found = []
    for piece in range(len(code) - 1):
        for rest in (1, under // 3, under // 2 + 1, under - 1):
            common = gcd(rest, under)
            found.append((piece * (under // common) + rest // common, under // common))
    return found


class IsPointTest(Cases):
    def test_all_small_pairs(self):
        for code in ("C", "RC", "RLC", "RLRC", "RLLLLC"):
            for over in range(-4, 45):
                for under in range(-4, 9):
                    expected = under >= 1 and gcd(over, under) == 1 and 0 <= over <= (len(code) - 1) * under
                    self.assertIs(is_point(code, (over, under)), expected, (code, over, under))

    def test_only_point_of_c(self):
        self.assertIs(is_point("C", (0, 1)), True)
        self.assertIs(is_point("C", (1, 1)), False)
        self.assertIs(is_point("C", (1, 2)), False)

    def test_both_ends(self):
        for code in SHORT + LONG:
            top = len(code) - 1
            self.assertIs(is_point(code, (0, 1)), True)
            self.assertIs(is_point(code, (top, 1)), True)
            self.assertIs(is_point(code, (top + 1, 1)), False)
            self.assertIs(is_point(code, (-1, 1)), False)
            for under in (2, 7, 10 ** 20, 10 ** 900, HUGE):
                self.assertIs(is_point(code, (top * under + 1, under)), False)
                self.assertIs(is_point(code, (-1, under)), False)
                self.assertIs(is_point(code, (top * under - 1, under)), code != "C")
                self.assertIs(is_point(code, (1, under)), code != "C")

    def test_lowest_terms(self):
        self.assertIs(is_point("RLC", (4, 2)), False)
        self.assertIs(is_point("RLC", (3, 2)), True)
        self.assertIs(is_point("RLC", (0, 3)), False)
        self.assertIs(is_point("RLC", (10 ** 20, 10 ** 20)), False)
        self.assertIs(is_point("RLC", (10 ** 20 + 2, 10 ** 20)), False)
        self.assertIs(is_point("RLC", (10 ** 20 + 1, 10 ** 20)), True)

    def test_wrong_values(self):
        for code in ("C", "RC", "RLC", LONG[0], LONG[1]):
            for place, value in enumerate(NO_POINTS):
                with self.subTest(code=code, place=place):
                    self.assertIs(is_point(code, value), False)

    def test_argument_is_not_modified(self):
        value = [1, 2]
        is_point("RLC", value)
        self.assertEqual(value, [1, 2])

    def test_not_admissible_first(self):
        for place, code in enumerate(NO_ADMISSIBLE_CODES):
            with self.subTest(place=place):
                for value in ((0, 1), (4, 2), None, [1, 2], code):
                    self.check_raises(NotAdmissible, is_point, code, value)


class ImageTest(Cases):
    def check_image(self, code, point):
        found = image(code, point)
        self.assertEqual(found, maps.pair(maps.image(code, maps.number(point))), (code, point))
        self.assertIs(type(found), tuple)
        self.assertEqual([type(entry) for entry in found], [int, int])
        self.assertEqual(gcd(*found), 1)
        self.assertTrue(0 <= found[0] <= (len(code) - 1) * found[1])
        self.assertTrue(1 <= found[1] <= point[1])

    def test_positions(self):
        for code in SHORT + LONG:
            moves = reference.permutation(code)
            for place in range(len(code)):
                self.assertEqual(image(code, (place, 1)), (moves[place], 1))

    def test_small_points(self):
        for code in SHORT:
            for point in small_points(code, 9):
                self.check_image(code, point)

    def test_known_values(self):
        self.assertEqual(image("C", (0, 1)), (0, 1))
        self.assertEqual(image("RC", (1, 3)), (2, 3))
        self.assertEqual(image("RLC", (1, 4)), (5, 4))
        self.assertEqual(image("RLC", (5, 4)), (3, 2))
        self.assertEqual(image("RLRC", (3, 2)), (2, 1))

    def test_large_denominators(self):
        for under in (10 ** 20, 10 ** 20 + 39, 2 ** 80, 3 ** 60):
            for code in ("RC", "RLC", "RLLLRC") + LONG[:4]:
                for point in fine_points(code, under):
                    self.check_image(code, point)

    def test_huge_denominator(self):
        self.assertEqual(image("RC", (1, HUGE)), (HUGE - 1, HUGE))
        self.assertEqual(image("RLC", (1, HUGE)), (HUGE + 1, HUGE))
        self.assertEqual(image("RLC", (HUGE + 1, HUGE)), (HUGE - 1, HUGE // 2))

    def test_forty_letters(self):
        for code in LONG:
            for point in points_of(code, 2) + points_of(code, 7):
                self.check_image(code, point)

    def test_errors(self):
        for place, code in enumerate(NO_ADMISSIBLE_CODES):
            with self.subTest(place=place):
                self.check_raises(NotAdmissible, image, code, (0, 1))
                self.check_raises(NotAdmissible, image, code, (4, 2))
                self.check_raises(NotAdmissible, image, code, None)
        for place, value in enumerate(NO_POINTS):
            with self.subTest(place=place):
                for code in ("C", "RC", "RLC", LONG[0]):
                    self.check_raises(InvalidPoint, image, code, value)
        self.check_raises(InvalidPoint, image, "C", (1, 1))
        self.check_raises(InvalidPoint, image, "RLC", (5, 2))


class StepsTest(Cases):
    def check_steps(self, code, point, steps):
        place = point
        letters = ""
        turning = maps.turning_of(code)
        for _ in range(steps):
            over, under = place
            letters += "L" if over < turning * under else "R" if over > turning * under else "C"
            place = image(code, place)
        self.assertEqual(image_after(code, point, steps), place, (code, point, steps))
        self.assertEqual(itinerary(code, point, steps), letters, (code, point, steps))

    def test_no_step(self):
        for code in SHORT + LONG:
            for point in small_points(code, 3):
                self.assertEqual(image_after(code, point, 0), point)
                self.assertEqual(itinerary(code, point, 0), "")

    def test_one_step(self):
        for code in SHORT:
            for point in small_points(code, 7):
                self.check_steps(code, point, 1)
                self.assertEqual(image_after(code, point, 1), image(code, point))

    def test_some_steps(self):
        for code in SHORT[::3] + LONG[:2]:
            for point in points_of(code, 5) + points_of(code, 8):
                self.check_steps(code, point, 23)

    def test_against_fractions(self):
        for code in SHORT:
            for point in points_of(code, 11):
                path = maps.images(code, maps.number(point), 13)
                self.assertEqual(image_after(code, point, 13), maps.pair(path[-1]))
                self.assertEqual(itinerary(code, point, 13), maps.itinerary(code, path[0], 13))

    def test_ten_thousand_steps(self):
        for code, point in (("C", (0, 1)), ("RC", (1, 3)), ("RLC", (2, 7)), ("RLLC", (11, 9)), ("RLRRC", (5, 13))):
            self.check_steps(code, point, 10000)
            self.assertEqual(len(itinerary(code, point, 10000)), 10000)
        code = LONG[2]
        start, cycle = orbit(code, (7, 3))
        path = start + cycle * 10000
        self.assertEqual(image_after(code, (7, 3), 10000), path[10000])
        self.assertEqual(image_after(code, (7, 3), 9999), path[9999])

    def test_many_steps_with_large_denominators(self):
        for code in ("RLC", "RLLLRC") + LONG[:3]:
            for under in (10 ** 20 + 39, 7 ** 30, 2 ** 200):
                for point in fine_points(code, under)[::5]:
                    self.check_steps(code, point, 64)

    def test_letters_of_positions(self):
        for code in SHORT + LONG:
            letters = code * 3
            for index, place in enumerate(reference.positions(code)):
                self.assertEqual(itinerary(code, (place, 1), 2 * len(code)), letters[index:index + 2 * len(code)])

    def test_letters_beside_the_turning_position(self):
        under = 10 ** 25
        for code in SHORT[2:] + LONG:
            turning = maps.turning_of(code)
            self.assertEqual(itinerary(code, (turning, 1), 1), "C")
            self.assertEqual(itinerary(code, (turning * under + 1, under), 1), "R")
            self.assertEqual(itinerary(code, (turning * under - 1, under), 1), "L")

    def test_not_admissible(self):
        for function in (image_after, itinerary):
            for place, code in enumerate(NO_ADMISSIBLE_CODES):
                with self.subTest(function=function.__name__, place=place):
                    for point, steps in (((0, 1), 3), ((4, 2), 3), ((0, 1), -1), (None, None)):
                        self.check_raises(NotAdmissible, function, code, point, steps)

    def test_invalid_point(self):
        for function in (image_after, itinerary):
            for place, point in enumerate(NO_POINTS + [(5, 2), (3, 1)]):
                with self.subTest(function=function.__name__, place=place):
                    for steps in (0, 3, -1, 10001, True, None, "1"):
                        self.check_raises(InvalidPoint, function, "RLC", point, steps)

    def test_invalid_count(self):
        for function in (image_after, itinerary):
            for place, steps in enumerate(NO_STEPS):
                with self.subTest(function=function.__name__, place=place):
                    for code, point in (("C", (0, 1)), ("RLC", (1, 2)), (LONG[0], (1, 10 ** 20))):
                        self.check_raises(InvalidCount, function, code, point, steps)


class OrbitTest(Cases):
    def check_orbit(self, code, point):
        start, cycle = maps.orbit(code, maps.number(point))
        found = orbit(code, point)
        self.assertIs(type(found), tuple)
        self.assertEqual(found, ([maps.pair(x) for x in start], [maps.pair(x) for x in cycle]), (code, point))
        self.assertEqual([type(part) for part in found], [list, list])
        self.assertEqual(least_period(code, point), None if start else len(cycle), (code, point))

    def test_small_points(self):
        for code in SHORT:
            for point in small_points(code, 7):
                self.check_orbit(code, point)

    def test_long_codes(self):
        for code in LONG:
            for point in [(1, 2), (7, 2), (16, 5), (25, 3), (40, 7)]:
                self.check_orbit(code, point)

    def test_positions(self):
        for code in SHORT + LONG:
            top = (len(code) - 1, 1)
            start, cycle = orbit(code, top)
            self.assertEqual(start, [])
            self.assertEqual(cycle, [(place, 1) for place in reference.positions(code)])
            for place in range(len(code)):
                self.assertEqual(least_period(code, (place, 1)), len(code))
                self.assertEqual(orbit(code, (place, 1))[1][0], (place, 1))

    def test_in_a_cycle_and_outside(self):
        self.assertEqual(orbit("RLC", (5, 3)), ([], [(5, 3), (2, 3)]))
        self.assertEqual(least_period("RLC", (4, 3)), 1)
        self.assertEqual(orbit("RLC", (1, 3)), ([(1, 3)], [(4, 3)]))
        self.assertIsNone(least_period("RLC", (1, 3)))
        self.assertIsNone(least_period("RLC", (1, 2)))
        self.assertEqual(least_period("C", (0, 1)), 1)
        self.assertEqual(orbit("RC", (1, 2)), ([], [(1, 2)]))
        self.assertEqual(orbit("RC", (1, 7)), ([], [(1, 7), (6, 7)]))

    def check_length(self, code, point, start_length, cycle_length):
        start, cycle = orbit(code, point)
        self.assertEqual((len(start), len(cycle)), (start_length, cycle_length))
        path = start + cycle
        self.assertEqual(path[0], point)
        self.assertEqual(len(set(path)), len(path))
        for one, following in zip(path, path[1:] + cycle[:1]):
            self.assertEqual(maps.image(code, maps.number(one)), maps.number(following))
        self.assertEqual(least_period(code, point), None if start else cycle_length)

    def test_just_one_thousand_points(self):
        self.check_length("RLC", (1, 1999), 1, 999)
        self.check_length("RLLRRC", (1, 1703), 56, 944)
        self.check_length("RLLC", image("RLLC", (1, 1250)), 0, 1000)

    def check_too_long(self, code, point, size):
        path = maps.images(code, maps.number(point), size)
        self.assertEqual(len(set(path)), size)
        self.check_raises(TooLong, orbit, code, point)
        self.check_raises(TooLong, least_period, code, point)

    def test_one_thousand_and_one_points(self):
        self.check_too_long("RLC", (1, 3998), 1001)
        self.check_too_long("RLLC", (1, 1250), 1001)
        self.check_too_long("RLLRRC", (1, 3443), 1001)

    def test_limit_with_a_long_start(self):
        # In the start of such a point the denominators are halved again and again.
        point = (1, 2 ** 665)
        self.check_raises(TooLong, orbit, "RLC", point)
        self.check_raises(TooLong, least_period, "RLC", point)
        start, cycle = orbit("RLC", image("RLC", point))
        self.assertEqual((len(start), len(cycle)), (997, 3))
        self.assertIsNone(least_period("RLC", image("RLC", point)))

    def test_too_long_with_large_denominators(self):
        for code in ("RLC", "RLLLRC") + LONG[:2]:
            self.check_raises(TooLong, orbit, code, (10 ** 40, 10 ** 40 + 1))
            self.check_raises(TooLong, least_period, code, (10 ** 40, 10 ** 40 + 1))

    def test_errors(self):
        for function in (orbit, least_period):
            for place, code in enumerate(NO_ADMISSIBLE_CODES):
                with self.subTest(function=function.__name__, place=place):
                    for point in ((0, 1), (4, 2), None, (10 ** 40, 10 ** 40 + 1)):
                        self.check_raises(NotAdmissible, function, code, point)
            for place, point in enumerate(NO_POINTS):
                with self.subTest(function=function.__name__, place=place):
                    self.check_raises(InvalidPoint, function, "RLC", point)
                    self.check_raises(InvalidPoint, function, LONG[0], point)
            self.check_raises(InvalidPoint, function, "RLC", (2 * 10 ** 40 + 1, 10 ** 40))

    def test_changed_lists(self):
        for code, point in (("RLC", (1, 2)), ("RLC", (5, 3)), ("RLLC", (3, 1)), ("C", (0, 1))):
            kept = [list(part) for part in orbit(code, point)]
            period = least_period(code, point)
            start, cycle = orbit(code, point)
            start.append((0, 1))
            cycle.reverse()
            cycle.pop()
            self.assertEqual(list(orbit(code, point)), kept)
            self.assertEqual(least_period(code, point), period)
