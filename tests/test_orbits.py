import itertools

from humpcodes.errors import InvalidPermutation, NotAdmissible
from humpcodes.orbits import code_of, is_hump, permutation, positions
from tests import reference
from tests.support import Cases
from tests.values import HUGE, NO_ADMISSIBLE_CODES, NO_PERIODS, nested

CODES = reference.admissible_up_to(10) + reference.long_codes(25) + reference.long_codes(40)

NO_HUMPS = [
    (), [], [0], [1, 0], [1, 2, 0], [[0]], "", "0", "C", "RLC", "10", 0, 1, None, True, False,
    (1,), (-1,), (True,), (False,), (None,), ("0",), ((0,),), ([0],), ((),), ("C",),
    (True, 0), (1, False), (True, False), (1, 2, False), (True, 2, 0), (1, True, 0), (1, 0, None), (1, 2, "0"),
    (1, 2, [0]), (1, 2, (0,)), ((1, 0),), ([1, 0],), (1, 0, ()), (None, None), ("1", "0"), (0, "1"), ([], ()),
    (0, 0), (1, 1), (0, 1), (2, 1), (1, 2), (2, 0), (-1, 0), (1, -1), (1, 0, 3), (1, 2, 3), (2, 3, 1), (1, 2, -3),
    (1, 2, 2), (1, 1, 0), (2, 2, 0), (0, 2, 1, 1), (HUGE, 0), (1, HUGE), (HUGE,), (-HUGE, 1), (1, 2, 10 ** 30),
    (1, 0, 2), (0, 1, 2), (0, 2, 1), (2, 1, 0), (2, 0, 1), (0, 1, 2, 3), (3, 2, 1, 0), (1, 0, 3, 2), (2, 0, 3, 1),
    (1, 2, 3, 0, 4), nested(0, 2), nested((1, 0), 6), (1, 2, 0, 1), (1, 2, 0, 0, 0),
]


class PositionsTest(Cases):
    def test_known_codes(self):
        self.assertEqual(positions("C"), (0,))
        self.assertEqual(positions("RC"), (1, 0))
        self.assertEqual(positions("RLC"), (2, 0, 1))
        self.assertEqual(positions("RLLC"), (3, 0, 1, 2))
        self.assertEqual(positions("RLRRC"), (4, 0, 2, 3, 1))
        self.assertEqual(permutation("C"), (0,))
        self.assertEqual(permutation("RC"), (1, 0))
        self.assertEqual(permutation("RLC"), (1, 2, 0))
        self.assertEqual(permutation("RLLC"), (1, 2, 3, 0))

    def test_positions(self):
        for code in CODES:
            found = positions(code)
            self.assertIs(type(found), tuple)
            self.assertEqual(found, reference.positions(code), code)

    def test_permutation(self):
        for code in CODES:
            found = permutation(code)
            self.assertIs(type(found), tuple)
            self.assertEqual(found, reference.permutation(code), code)

    def test_permutations_are_humps(self):
        for code in CODES:
            self.assertIs(is_hump(permutation(code)), True, code)
            self.assertTrue(reference.is_hump(permutation(code)), code)

    def test_not_admissible(self):
        self.check_all_raise(NotAdmissible, positions, NO_ADMISSIBLE_CODES)
        self.check_all_raise(NotAdmissible, permutation, NO_ADMISSIBLE_CODES)


class IsHumpTest(Cases):
    def test_all_small_permutations(self):
        for length in range(1, 8):
            for moves in itertools.permutations(range(length)):
                self.assertIs(is_hump(moves), reference.is_hump(moves), moves)

    def test_all_small_tuples(self):
        for length in range(1, 5):
            for moves in itertools.product(range(-1, length + 1), repeat=length):
                expected = sorted(moves) == list(range(length)) and reference.is_hump(moves)
                self.assertIs(is_hump(moves), expected, moves)

    def test_one_position(self):
        self.assertIs(is_hump((0,)), True)

    def test_two_cycles(self):
        self.assertIs(is_hump((0, 2, 1)), False)
        self.assertIs(is_hump((2, 3, 1, 0)), True)
        self.assertIs(is_hump((1, 3, 2, 0)), False)
        self.assertIs(is_hump(tuple(range(39, -1, -1))), False)

    def test_two_humps(self):
        self.assertIs(is_hump((2, 0, 3, 1)), False)
        self.assertIs(is_hump((1, 3, 0, 2)), False)
        self.assertIs(is_hump((2, 0, 1)), False)

    def test_wrong_values(self):
        for place, value in enumerate(NO_HUMPS + NO_ADMISSIBLE_CODES + NO_PERIODS):
            with self.subTest(place=place):
                self.assertIs(is_hump(value), False)

    def test_lists(self):
        for code in CODES:
            self.assertIs(is_hump(list(permutation(code))), False)

    def test_bools_among_the_entries(self):
        for code in reference.admissible_up_to(6)[1:]:
            moves = list(permutation(code))
            for wrong in (False, True):
                replaced = [wrong if entry == int(wrong) else entry for entry in moves]
                self.assertIs(is_hump(tuple(replaced)), False, replaced)

    def test_lengths(self):
        for length in range(1, 50):
            for code in (reference.least_code(length), "R" + "L" * (length - 2) + "C" if length > 1 else "C"):
                moves = reference.permutation(code)
                self.assertTrue(reference.is_hump(moves))
                self.assertIs(is_hump(moves), length <= 40, length)

    def test_argument_is_not_modified(self):
        value = [2, 3, 1, 0]
        self.assertIs(is_hump(value), False)
        self.check_raises(InvalidPermutation, code_of, value)
        self.assertEqual(value, [2, 3, 1, 0])


class CodeOfTest(Cases):
    def test_known_codes(self):
        self.assertEqual(code_of((0,)), "C")
        self.assertEqual(code_of((1, 0)), "RC")
        self.assertEqual(code_of((2, 3, 1, 0)), "RLRC")
        self.assertEqual(code_of((1, 2, 3, 0)), "RLLC")

    def test_undoes_permutation(self):
        for code in CODES:
            self.assertEqual(code_of(permutation(code)), code)
            self.assertEqual(code_of(reference.permutation(code)), code)

    def test_one_to_one(self):
        for length in range(1, 9):
            humps = [moves for moves in itertools.permutations(range(length)) if reference.is_hump(moves)]
            codes = [code_of(moves) for moves in humps]
            self.assertEqual(sorted(codes, key=reference.key), list(reference.admissible_of(length)))
            self.assertEqual([permutation(code) for code in codes], humps)

    def test_forty_positions(self):
        for period in (38, 39, 40):
            for code in reference.long_codes(period):
                self.assertEqual(code_of(reference.permutation(code)), code)

    def test_invalid_permutation(self):
        self.check_all_raise(InvalidPermutation, code_of, NO_HUMPS + NO_ADMISSIBLE_CODES + NO_PERIODS)
        self.check_raises(InvalidPermutation, code_of, reference.permutation(reference.least_code(41)))
        self.check_raises(InvalidPermutation, code_of, reference.permutation(reference.least_code(48)))
        for moves in itertools.permutations(range(5)):
            if not reference.is_hump(moves):
                self.check_raises(InvalidPermutation, code_of, moves)
