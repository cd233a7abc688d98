"""Point 2: lists that the caller changes change no later result, and no function modifies its arguments."""

import copy
import importlib
import unittest

from tests import reference
from tests.test_interface import EXAMPLES, FUNCTIONS, METHODS

TOP = "R" + "L" * 38 + "C"
SEVERAL = ["C", "RC", "RLC", "RLRC", "RLRRC", "RLLRLC", reference.least_code(40), TOP]

MORE_CALLS = [
    ("listing", "codes_of_period", (12,)),
    ("listing", "codes_up_to", (7,)),
    ("listing", "next_code", ("RLRC", 7)),
    ("products", "quotient", ("RLRRRC", "RLC")),
    ("orbits", "is_hump", ([1, 0],)),
    ("strokes", "is_point", ("RLC", [1, 2])),
    ("checker", "check", (("product", "RLLRLC", ["RLC", "RC"]),)),
    ("checker", "check", (("product", "RLLRLC", ["RC", ["RLC"]]),)),
    ("checker", "check", (("between", "RC", "RLC", ["RLRC"]),)),
    ("checker", "check", (("point", "RLC", [5, 3], "RL"),)),
    ("checker", "check", (("point", "RLC", (5, 3), ["RL"]),)),
    ("checker", "check", (("no period", "RLC", [3]),)),
    ("checker", "check", (("not admissible", "RRC", [1]),)),
    ("pieces", "are_upper", ("RLC", (5, 3), [3, 5])),
    ("pieces", "are_upper", ("RLC", (5, 3), ([3], 5))),
    ("pieces", "are_lower", ("RLC", (8, 5), [5, 8])),
    ("pieces", "are_lower", ("RLC", (8, 5), (5, [8]))),
    ("kinds", "codes_of_growth", ("RLC", 36)),
    ("floors", "codes_beside", ((3, 2), 12)),
    ("floors", "simplest_fraction", (TOP, "R" + "L" * 37 + "C")),
    ("records", "judge", (("upper", "RLC", (5, 3), [3, 5]),)),
    ("records", "judge", (("lower", "RLC", (8, 5), (5, [8])),)),
    ("records", "judge", (("flat", "RLC", [1]),)),
    ("records", "judge", (("class", "RLRRRC", 1, ["RLC"], ["C"]),)),
    ("records", "judge", (("apart", "RC", "RLC", (3, 2), (1,), [2, 3]),)),
    ("records", "judge", (("tent", "RLC", [3, 2], [2], [1]),)),
]
for _code in SEVERAL:
    MORE_CALLS.extend([
        ("products", "factors", (_code,)),
        ("orbits", "permutation", (_code,)),
        ("strokes", "orbit", (_code, (0, 1))),
        ("strokes", "orbit", (_code, (len(_code) - 1, 1))),
        ("strokes", "least_period", (_code, (0, 1))),
        ("forcing", "periods_up_to", (_code, 20)),
        ("forcing", "words_of", (_code,)),
        ("cycles", "realised_words", (_code, 4)),
        ("cycles", "cycles", (_code, 3)),
        ("cycles", "cycles", (_code, 1)),
        ("cycles", "count_returns", (_code, 7)),
        ("cycles", "count_laps", (_code, 7)),
        ("pieces", "covered_pieces", (_code,)),
        ("growths", "upper_weights", (_code, (3, 2))),
        ("growths", "lower_weights", (_code, (3, 2))),
        ("signs", "growth_value", (_code, (3, 2))),
        ("tents", "compare_growth", (_code, (3, 2))),
        ("kinds", "growth_class", (_code,)),
        ("kinds", "codes_of_growth", (_code, 12)),
        ("kinds", "codes_of_growth", (_code, 40)),
        ("floors", "growth_floor", (_code, 1000)),
    ])

CALLS = [(module, name, arguments) for module, name, arguments, _ in EXAMPLES] + MORE_CALLS


def run(call):
    module, name, arguments = call
    return getattr(importlib.import_module("humpcodes." + module), name)(*arguments)


def lists_in(value):
    """All lists within a value, the inner ones first."""
    found = []
    if isinstance(value, (list, tuple)):
        for entry in value:
            found.extend(lists_in(entry))
    if isinstance(value, list):
        found.append(value)
    return found


def spoil(value):
    """Change every list within a result, and tell how many there are."""
    lists = lists_in(value)
    for row in lists:
        row.reverse()
        row.append("changed")
        row.insert(0, None)
    return len(lists)


def filled(module, name):
    space = getattr(importlib.import_module("humpcodes." + module), name)()
    for letter, code in zip("hgfedcba", SEVERAL):
        space.put(letter, code)
    space.mark()
    space.multiply("z", "g", "f")
    space.split("y", "f", "a")
    space.mark()
    return space


def filled_ladder():
    ladder = filled("ladder", "Ladder")
    ladder.refine(1000)
    ladder.mark()
    return ladder


def state_of(space):
    names = space.names()
    return [names, space.marks(), space.ranking(), [space.code(name) for name in names],
            [space.forced_by(name) for name in names]]


def state_of_ladder(ladder):
    return state_of(ladder) + [
        ladder.growth_ranking(), [ladder.growing_like(name) for name in ladder.names()], ladder.rungs(), ladder.size(),
        ladder.between_fractions((3, 2), (2, 1)), ladder.wedge("a", "h"),
    ]


class UnchangedTest(unittest.TestCase):
    def test_every_function_is_called(self):
        called = {(module, name) for module, name, _ in CALLS}
        self.assertEqual(called, {(module, name) for module, names in FUNCTIONS.items() for name in names})
        self.assertEqual(list(METHODS), [("workspace", "Workspace"), ("ladder", "Ladder")])

    def test_changed_results(self):
        space, ladder = filled("workspace", "Workspace"), filled_ladder()
        first = [copy.deepcopy(run(call)) for call in CALLS]
        state, of_ladder = copy.deepcopy(state_of(space)), copy.deepcopy(state_of_ladder(ladder))
        self.assertGreater(sum(spoil(run(call)) for call in CALLS), 90)
        self.assertGreater(spoil(state_of(space)), 13)
        self.assertGreater(spoil(state_of_ladder(ladder)), 40)
        self.assertEqual([run(call) for call in CALLS], first)
        self.assertEqual(state_of(space), state)
        self.assertEqual(state_of_ladder(ladder), of_ladder)
        # Another order of the calls makes no difference either.
        self.assertEqual([run(call) for call in reversed(CALLS)], first[::-1])
        self.assertEqual(state_of(filled("workspace", "Workspace")), state)
        self.assertEqual(state_of_ladder(filled_ladder()), of_ladder)
        space.back(1)
        self.assertEqual(state_of(space), state)
        ladder.back(2)
        self.assertEqual(state_of_ladder(ladder), of_ladder)

    def test_arguments_are_not_modified(self):
        kept = copy.deepcopy(CALLS)
        for call in CALLS:
            run(call)
        self.assertEqual(CALLS, kept)
        self.assertEqual(repr(CALLS), repr(kept))
