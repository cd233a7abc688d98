"""Point 2: lists that the caller changes change no later result, and no function modifies its arguments."""

import copy
import importlib
import unittest

from tests import reference
from tests.test_interface import EXAMPLES, FUNCTIONS, METHODS

TOP = "R" + "L" * 38 + "C"
SEVERAL = ["C", "RC", "RLC", "RLRC", "RLRRC", "RLLRLC", reference.least_code(40), TOP]

MORE_CALLS = [
    ("listing", "codes_of_period", (12,)),
    ("listing", "codes_up_to", (7,)),
    ("listing", "next_code", ("RLRC", 7)),
    ("products", "quotient", ("RLRRRC", "RLC")),
    ("orbits", "is_hump", ([1, 0],)),
    ("strokes", "is_point", ("RLC", [1, 2])),
    ("checker", "check", (("product", "RLLRLC", ["RLC", "RC"]),)),
    ("checker", "check", (("product", "RLLRLC", ["RC", ["RLC"]]),)),
    ("checker", "check", (("between", "RC", "RLC", ["RLRC"]),)),
    ("checker", "check", (("point", "RLC", [5, 3], "RL"),)),
    ("checker", "check", (("point", "RLC", (5, 3), ["RL"]),)),
    ("checker", "check", (("no period", "RLC", [3]),)),
    ("checker", "check", (("not admissible", "RRC", [1]),)),
    ("pieces", "are_upper", ("RLC", (5, 3), [3, 5])),
    ("pieces", "are_upper", ("RLC", (5, 3), ([3], 5))),
    ("pieces", "are_lower", ("RLC", (8, 5), [5, 8])),
    ("pieces", "are_lower", ("RLC", (8, 5), (5, [8]))),
]
for _code in SEVERAL:
    MORE_CALLS.extend([
        ("products", "factors", (_code,)),
        ("orbits", "permutation", (_code,)),
        ("strokes", "orbit", (_code, (0, 1))),
        ("strokes", "orbit", (_code, (len(_code) - 1, 1))),
        ("strokes", "least_period", (_code, (0, 1))),
        ("forcing", "periods_up_to", (_code, 20)),
        ("forcing", "words_of", (_code,)),
        ("cycles", "realised_words", (_code, 4)),
        ("cycles", "cycles", (_code, 3)),
        ("cycles", "cycles", (_code, 1)),
        ("cycles", "count_returns", (_code, 7)),
        ("cycles", "count_laps", (_code, 7)),
        ("pieces", "covered_pieces", (_code,)),
        ("growths", "upper_weights", (_code, (3, 2))),
        ("growths", "lower_weights", (_code, (3, 2))),
        ("signs", "growth_value", (_code, (3, 2))),
        ("tents", "compare_growth", (_code, (3, 2))),
    ])

CALLS = [(module, name, arguments) for module, name, arguments, _ in EXAMPLES] + MORE_CALLS


def run(call):
    module, name, arguments = call
    return getattr(importlib.import_module("humpcodes." + module), name)(*arguments)


def lists_in(value):
    """All lists within a value, the inner ones first."""
    found = []
    if isinstance(value, (list, tuple)):
        for entry in value:
            found.extend(lists_in(entry))
    if isinstance(value, list):
        found.append(value)
    return found


def spoil(value):
    """Change every list within a result, and tell how many there are."""
    lists = lists_in(value)
    for row in lists:
        row.reverse()
        row.append("changed")
        row.insert(0, None)
    return len(lists)


def filled_workspace():
    space = importlib.import_module("humpcodes.workspace").Workspace()
    for name, code in zip("hgfedcba", SEVERAL):
        space.put(name, code)
    space.mark()
    space.multiply("z", "g", "f")
    space.split("y", "f", "a")
    space.mark()
    return space


def state_of(space):
    names = space.names()
    return [names, space.marks(), space.ranking(), [space.code(name) for name in names],
            [space.forced_by(name) for name in names]]


class UnchangedTest(unittest.TestCase):
    def test_every_function_is_called(self):
        called = {(module, name) for module, name, _ in CALLS}
        self.assertEqual(called, {(module, name) for module, names in FUNCTIONS.items() for name in names})
        self.assertEqual(list(METHODS), [("workspace", "Workspace")])

    def test_changed_results(self):
        space = filled_workspace()
        first = [copy.deepcopy(run(call)) for call in CALLS]
        state = copy.deepcopy(state_of(space))
        self.assertGreater(sum(spoil(run(call)) for call in CALLS), 60)
        self.assertGreater(spoil(state_of(space)), 13)
        self.assertEqual([run(call) for call in CALLS], first)
        self.assertEqual(state_of(space), state)
        # Another order of the calls makes no difference either.
        self.assertEqual([run(call) for call in reversed(CALLS)], first[::-1])
        self.assertEqual(state_of(filled_workspace()), state)
        space.back(1)
        self.assertEqual(state_of(space), state)

    def test_arguments_are_not_modified(self):
        kept = copy.deepcopy(CALLS)
        for call in CALLS:
            run(call)
        self.assertEqual(CALLS, kept)
        self.assertEqual(repr(CALLS), repr(kept))
