"""The names of the interface, its examples, and point 1."""

import ast
import importlib
import pathlib
import unittest

import humpcodes

FUNCTIONS = {
    "codes": ["is_code", "compare", "is_admissible", "greater_tail"],
    "listing": ["count_codes", "codes_of_period", "codes_up_to", "next_code"],
    "products": ["product", "quotient", "factors", "is_prime"],
    "least": ["least_code", "greatest_code", "precedes", "first_period", "has_period"],
    "between": ["are_neighbours", "shortest_between"],
    "orbits": ["positions", "permutation", "is_hump", "code_of"],
    "strokes": ["is_point", "image", "image_after", "itinerary", "orbit", "least_period"],
    "words": ["is_word", "word_period", "is_realised", "point_of_word"],
    "forcing": ["forces", "words_of", "points_of_code", "point_of_period", "periods_up_to"],
    "cycles": ["realised_words", "cycles", "count_returns", "count_laps"],
    "checker": ["check"],
    "pieces": ["covered_pieces", "are_upper", "are_lower"],
    "growths": ["upper_weights", "lower_weights"],
    "signs": ["growth_signs", "growth_value"],
    "tents": ["tent_letters", "compare_growth"],
    "kinds": ["growth_class", "compare_growths", "codes_of_growth", "count_of_growth"],
    "floors": ["growth_floor", "simplest_fraction", "codes_beside"],
    "records": ["judge"],
}

OF_WORKSPACE = ["put", "multiply", "split", "remove", "mark", "back", "names", "marks", "code", "ranking", "forced_by"]
METHODS = {
    ("workspace", "Workspace"): OF_WORKSPACE,
    ("ladder", "Ladder"): OF_WORKSPACE + [
        "growth_ranking", "growing_like", "between_fractions", "wedge", "refine", "size", "rungs",
    ],
}

EXAMPLES = [
    ("codes", "is_code", ("RLC",), "True"),
    ("codes", "compare", ("RLRC", "RLC"), "-1"),
    ("codes", "is_admissible", ("RLLRC",), "True"),
    ("codes", "greater_tail", ("RRC",), "1"),
    ("listing", "count_codes", (6,), "5"),
    ("listing", "codes_of_period", (5,), "['RLRRC', 'RLLRC', 'RLLLC']"),
    ("listing", "codes_up_to", (4,), "['C', 'RC', 'RLRC', 'RLC', 'RLLC']"),
    ("listing", "next_code", ("RLRC", 5), "'RLRRC'"),
    ("products", "product", ("RC", "RLC"), "'RLRRRC'"),
    ("products", "quotient", ("RLRRRC", "RC"), "'RLC'"),
    ("products", "factors", ("RLLRLC",), "['RLC', 'RC']"),
    ("products", "is_prime", ("RLRRC",), "True"),
    ("least", "least_code", (6,), "'RLRRRC'"),
    ("least", "greatest_code", (4,), "'RLLC'"),
    ("least", "precedes", (5, 6), "True"),
    ("least", "first_period", ("RLLC",), "3"),
    ("least", "has_period", ("RLRRC", 3), "False"),
    ("between", "are_neighbours", ("RLRC", "RC"), "True"),
    ("between", "shortest_between", ("RLRRC", "RLC"), "'RLRRLRC'"),
    ("orbits", "positions", ("RLRC",), "(3, 0, 2, 1)"),
    ("orbits", "permutation", ("RLRC",), "(2, 3, 1, 0)"),
    ("orbits", "is_hump", ((1, 0, 2),), "False"),
    ("orbits", "code_of", ((1, 2, 0),), "'RLC'"),
    ("strokes", "is_point", ("RLC", (4, 2)), "False"),
    ("strokes", "image", ("RLC", (3, 2)), "(1, 1)"),
    ("strokes", "image_after", ("RLC", (1, 2), 3), "(2, 1)"),
    ("strokes", "itinerary", ("RLC", (16, 9), 5), "'RLRRR'"),
    ("strokes", "orbit", ("RLC", (1, 2)), "([(1, 2), (3, 2)], [(1, 1), (2, 1), (0, 1)])"),
    ("strokes", "least_period", ("RLC", (5, 3)), "2"),
    ("words", "is_word", ("LRR",), "True"),
    ("words", "word_period", ("RLRL",), "2"),
    ("words", "is_realised", ("RLRC", "RLR"), "False"),
    ("words", "point_of_word", ("RLC", "R"), "(4, 3)"),
    ("forcing", "forces", ("RLC", "RLRRC"), "True"),
    ("forcing", "words_of", ("RLC",), "('RLR', 'RLL')"),
    ("forcing", "points_of_code", ("RLC", "RC"), "((4, 3), (5, 3))"),
    ("forcing", "point_of_period", ("RLC", 4), "(16, 9)"),
    ("forcing", "periods_up_to", ("RLRRC", 8), "[1, 2, 4, 5, 6, 7, 8]"),
    ("cycles", "realised_words", ("RLC", 2), "['LR', 'RL']"),
    ("cycles", "cycles", ("RLC", 2), "[[(5, 3), (2, 3)]]"),
    ("cycles", "count_returns", ("RLC", 3), "4"),
    ("cycles", "count_laps", ("RLC", 2), "3"),
    ("checker", "check", (("between", "RC", "RLC", "RLRC"),), "('right',)"),
    ("pieces", "covered_pieces", ("RLC",), "[(1, 1), (0, 1)]"),
    ("pieces", "are_upper", ("RLC", (5, 3), (3, 5)), "True"),
    ("pieces", "are_upper", ("C", (2, 1), ()), "True"),
    ("pieces", "are_lower", ("RLC", (8, 5), (5, 8)), "True"),
    ("pieces", "are_lower", ("C", (2, 1), ()), "False"),
    ("growths", "upper_weights", ("RLC", (8, 5)), "None"),
    ("growths", "upper_weights", ("C", (3, 2)), "()"),
    ("growths", "lower_weights", ("RLC", (5, 3)), "None"),
    ("growths", "lower_weights", ("RC", (101, 100)), "None"),
    ("signs", "growth_signs", ("RLRRC",), "(1, -1, -1, 1, -1)"),
    ("signs", "growth_value", ("RLC", (3, 2)), "(-1, 4)"),
    ("signs", "growth_value", ("C", (3, 2)), "(1, 1)"),
    ("tents", "tent_letters", ((3, 2), 5), "'RLRRR'"),
    ("tents", "tent_letters", ((2, 1), 4), "'RLLL'"),
    ("tents", "compare_growth", ("RLC", (3, 2)), "1"),
    ("tents", "compare_growth", ("RLC", (17, 10)), "-1"),
    ("tents", "compare_growth", ("C", (5, 1)), "-1"),
    ("kinds", "growth_class", ("RLRRRC",), "(1, 'RLC')"),
    ("kinds", "growth_class", ("RLRC",), "None"),
    ("kinds", "growth_class", ("RLLRLC",), "(0, 'RLC')"),
    ("kinds", "compare_growths", ("RLC", "RLLRLC"), "0"),
    ("kinds", "codes_of_growth", ("RLC", 6), "['RLLRLC']"),
    ("kinds", "codes_of_growth", ("RC", 4), "['RLRC']"),
    ("kinds", "count_of_growth", ("RLC", 9), "1"),
    ("floors", "growth_floor", ("RLC", 1000), "1618"),
    ("floors", "growth_floor", ("RLRC", 7), "7"),
    ("floors", "simplest_fraction", ("RLC", "RC"), "(3, 2)"),
    ("floors", "simplest_fraction", ("RLC", "RLLC"), "(5, 3)"),
    ("floors", "codes_beside", ((3, 2), 4), "('RLRC', 'RLC')"),
    ("floors", "codes_beside", ((2, 1), 3), "('RLC', None)"),
    ("records", "judge", (("upper", "RLC", (5, 3), (3, 5)),), "('right',)"),
    ("records", "judge", (("tent", "RLC", (3, 2), 2, -1),), "('wrong', 3)"),
    ("records", "judge", (("class", "RLRRRC", 1, "RLC", "C"),), "('right',)"),
]

LIBRARY = ["__future__", "collections", "heapq", "itertools", "math"]


def function_of(module, name):
    return getattr(importlib.import_module("humpcodes." + module), name)


class InterfaceTest(unittest.TestCase):
    def test_each_function_is_defined_in_its_file(self):
        for module, names in FUNCTIONS.items():
            for name in names:
                with self.subTest(module=module, name=name):
                    self.assertEqual(function_of(module, name).__module__, "humpcodes." + module)

    def test_examples(self):
        for module, name, arguments, shown in EXAMPLES:
            with self.subTest(module=module, name=name):
                self.assertEqual(repr(function_of(module, name)(*arguments)), shown)

    def test_each_method_is_defined_in_its_class(self):
        for (module, name), methods in METHODS.items():
            found = function_of(module, name)
            self.assertEqual(found.__module__, "humpcodes." + module)
            for method in methods:
                with self.subTest(module=module, method=method):
                    self.assertTrue(callable(vars(found)[method]))

    def test_example_of_the_workspace(self):
        space = function_of("workspace", "Workspace")()
        self.assertIsNone(space.put("a", "RC"))
        self.assertIsNone(space.put("b", "RLC"))
        self.assertIsNone(space.split("c", "a", "b"))
        self.assertEqual(repr([space.code("c"), space.ranking()]), "['RLRC', ['a', 'c', 'b']]")

    def test_example_of_the_ladder(self):
        ladder = function_of("ladder", "Ladder")()
        self.assertIsNone(ladder.put("a", "RLC"))
        self.assertIsNone(ladder.put("b", "RC"))
        self.assertIsNone(ladder.multiply("c", "a", "b"))
        self.assertIsNone(ladder.multiply("d", "b", "a"))
        found = [ladder.growth_ranking(), ladder.growing_like("c"), ladder.between_fractions((6, 5), (3, 2)),
                 ladder.wedge("a", "d")]
        self.assertEqual(repr(found), "[[['b'], ['d'], ['a', 'c']], ['a'], ['d'], (3, 2)]")
        self.assertIsNone(ladder.refine(10))
        self.assertEqual(repr([ladder.size(), ladder.rungs()]), "[10, [(10, ['b']), (12, ['d']), (16, ['a', 'c'])]]")

    def test_examples_cover_the_interface(self):
        shown = dict.fromkeys((module, name) for module, name, _, _ in EXAMPLES)
        self.assertEqual(list(shown), [(module, name) for module, names in FUNCTIONS.items() for name in names])

    def test_nothing_from_outside_is_used(self):
        files = sorted(pathlib.Path(humpcodes.__file__).parent.rglob("*.py"))
        self.assertGreater(len(files), 6)
        for file in files:
            for node in ast.walk(ast.parse(file.read_text())):
                with self.subTest(file=file.name):
                    self.check_import(node)

    def check_import(self, node):
        self.assertNotIsInstance(node, ast.Import)
        if isinstance(node, ast.ImportFrom):
            self.assertIn(node.module.split(".")[0], ["humpcodes"] + LIBRARY)
        if isinstance(node, ast.Name):
            self.assertNotIn(node.id, ["open", "input", "print", "eval", "exec", "compile", "__import__"])
