"""The names of the interface, its examples, and point 1."""

import ast
import importlib
import pathlib
import unittest

import humpcodes

FUNCTIONS = {
    "codes": ["is_code", "compare", "is_admissible", "greater_tail"],
    "listing": ["count_codes", "codes_of_period", "codes_up_to", "next_code"],
}

EXAMPLES = [
    ("codes", "is_code", ("RLC",), "True"),
    ("codes", "compare", ("RLRC", "RLC"), "-1"),
    ("codes", "is_admissible", ("RLLRC",), "True"),
    ("codes", "greater_tail", ("RRC",), "1"),
    ("listing", "count_codes", (6,), "5"),
    ("listing", "codes_of_period", (5,), "['RLRRC', 'RLLRC', 'RLLLC']"),
    ("listing", "codes_up_to", (4,), "['C', 'RC', 'RLRC', 'RLC', 'RLLC']"),
    ("listing", "next_code", ("RLRC", 5), "'RLRRC'"),
]

LIBRARY = ["__future__", "collections", "heapq", "itertools", "math"]


def function_of(module, name):
    return getattr(importlib.import_module("humpcodes." + module), name)


class InterfaceTest(unittest.TestCase):
    def test_each_function_is_defined_in_its_file(self):
        for module, names in FUNCTIONS.items():
            for name in names:
                with self.subTest(module=module, name=name):
                    self.assertEqual(function_of(module, name).__module__, "humpcodes." + module)

    def test_examples(self):
        for module, name, arguments, shown in EXAMPLES:
            with self.subTest(module=module, name=name):
                self.assertEqual(repr(function_of(module, name)(*arguments)), shown)

    def test_examples_cover_the_interface(self):
        shown = [(module, name) for module, name, _, _ in EXAMPLES]
        self.assertEqual(shown, [(module, name) for module, names in FUNCTIONS.items() for name in names])

    def test_nothing_from_outside_is_used(self):
        files = sorted(pathlib.Path(humpcodes.__file__).parent.rglob("*.py"))
        self.assertGreater(len(files), 3)
        for file in files:
            for node in ast.walk(ast.parse(file.read_text())):
                with self.subTest(file=file.name):
                    self.check_import(node)

    def check_import(self, node):
        self.assertNotIsInstance(node, ast.Import)
        if isinstance(node, ast.ImportFrom):
            self.assertIn(node.module.split(".")[0], ["humpcodes"] + LIBRARY)
        if isinstance(node, ast.Name):
            self.assertNotIn(node.id, ["open", "input", "print", "eval", "exec", "compile", "__import__"])
