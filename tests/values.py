"""Values that are no codes, no admissible codes, no integers from 1 on."""


def nested(value, depth):
    """The value in lists and tuples of so many levels, alternately."""
    for level in range(depth):
        value = [value] if level % 2 == 0 else (value,)
    return value


HUGE = 10 ** 5000

NO_STRINGS = [
    0, 1, -1, 3, 40, 10 ** 30, HUGE, -HUGE, True, False, None,
    (), [], ("C",), ["C"], ("RC",), ["RC"], ("R", "C"), ["R", "L", "C"], (1, 2), [[]], ((),),
    ["RC", None], ("RLC", "RC"), nested("C", 2), nested("RC", 8), nested(None, 8),
]

NO_CODE_STRINGS = [
    "", " ", "c", "rc", "Rc", "rlc", "rLC", "R", "L", "RL", "RLR", "LLL", " C", "C ", " RC", "RC ", "R C",
    "RC\n", "\nRC", "R\nC", "RC\x00", "CC", "CRC", "RCC", "RCRC", "RCL", "RLCR", "CL", "RXC", "XC", "0C", "RC0",
    "RlC", "R.C", "R,L,C", "None", "True", "['R', 'C']", "R" * 39, "L" * 40, "RL" * 20,
    "RL" + "R" * 38 + "C", "R" + "L" * 39 + "C", "L" * 40 + "C", "R" * 40 + "C", "RL" * 50 + "C", "R\u0421",
]

NO_CODES = NO_STRINGS + NO_CODE_STRINGS

# Codes that have a greater tail.
NOT_ADMISSIBLE = [
    "LC", "LLC", "LRC", "RRC", "RRLC", "RLRLC", "RRRC", "LRLC", "RLRLLC", "RLLRLLC", "L" * 39 + "C", "R" * 39 + "C",
    "RL" + "RL" * 18 + "RC",
]

NO_ADMISSIBLE_CODES = NO_CODES + NOT_ADMISSIBLE

# No integers from 1 on.
NO_PERIODS = [
    0, -1, -2, -3, -40, -1000, -10 ** 30, -HUGE, True, False, None, "", "1", "3", "RC", "C", " ", "one",
    (), [], (1,), [1], (3,), [3], [[3]], (1, 2), ["3"], (None,), nested(3, 8), nested(1, 2),
]

# No points of any stroke map of a code of at most 40 letters.
NO_POINTS = [
    (0, 2), (2, 2), (4, 2), (10 ** 30, 2 * 10 ** 30), (0, 0), (1, 0), (0, -1), (1, -1), (-1, -1), (-1, 1), (-1, 2),
    (-1, 10 ** 30), (40, 1), (79, 2), (10 ** 30, 1), (HUGE, 1), (HUGE, HUGE), (1, -HUGE), (-HUGE, 1), (HUGE, 7),
    (True, 1), (1, True), (False, 1), (0, True), (True, True), (False, True), (True, 2), (None, 1), (1, None),
    (0, "1"), ("0", 1), ("1", "2"), ([0], 1), (0, [1]), ((0,), (1,)), ((0, 1),), ((0, 1), (1, 2)), (0, (1,)),
    (), (0,), (1,), (0, 1, 1), (1, 2, 3), (0, 1, 0), [0, 1], [1, 1], [1, 2], [[0, 1]], [(0, 1)], [],
    0, 1, -1, HUGE, True, False, None, "", "0", "1/2", "0/1", "(0, 1)", "01", "C", "RLC", nested(1, 8),
    nested((0, 1), 6),
]

# No words.
NO_WORDS = [
    "", "C", "RC", "RLC", "RLCRL", "CR", "l", "r", "rl", "Rl", "lR", "R L", " R", "R ", "L\n", "\nL", "R,L", "X", "LRX",
    "0", "1", "None", "R\x00", "\u0141", "R" * 41, "L" * 41, "RL" * 21, "RLR" * 100, "R" * 40 + "C", "C" * 40,
    ["R"], ["R", "L"], ("R", "L"), ("R",), [], (), (("R",),), [["R", "L"]], 0, 1, -1, HUGE, True, False, None,
    nested("R", 2), nested("RL", 8),
]

# No integers from 0 on.
NO_COUNTS = [
    -1, -2, -10, -10000, -10 ** 30, -HUGE, True, False, None, "", "0", "1", "3", "R", "C", " ", "one",
    (), [], (0,), [0], (1,), [1], (3,), [3], [[0]], (1, 2), ["3"], (None,), nested(3, 8), nested(0, 2),
]

# No fractions greater than 1.
NO_FRACTIONS = [value for value in NO_POINTS if value not in [(40, 1), (79, 2), (10 ** 30, 1), (HUGE, 1), (HUGE, 7)]]
NO_FRACTIONS += [
    (0, 1), (1, 1), (1, 2), (2, 3), (99, 100), (10 ** 12 - 1, 10 ** 12), (1, HUGE), (-3, 2), (3, -2), (-3, -2),
    (-2, -1), (3, 0), (2, 0), (HUGE, 0), (4, 2), (6, 4), (10, 4), (9, 6), (3 * 10 ** 12, 2 * 10 ** 12), (HUGE, 2),
    (2 * HUGE, HUGE),
    (2, True), (3, True), (True, False), (3, None), (None, 2), ("3", 2), (3, "2"), ("3", "2"), ([3], 2), (3, (2,)),
    [3, 2], [(3, 2)], ((3, 2),), ((3, 2), (3, 2)), (3, 2, 1), (3, 2, None), (3,), "3/2", "(3, 2)", "32", 2, 3,
    nested((3, 2), 1), nested((3, 2), 6), nested(3, 8),
]

# No sizes: no integers from 1 to 10 ** 12.
NO_SIZES = NO_PERIODS + [10 ** 12 + 1, 2 * 10 ** 12, 10 ** 30, HUGE, (10, 1), "10", [10], nested(10, 8)]
