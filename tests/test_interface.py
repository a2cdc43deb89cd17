"""The names and arguments of the interface, and the form of the code that it stands in."""

import ast
import importlib
import inspect
import unittest
from pathlib import Path

INTERFACE = {
    "houses": {
        "is_house": "value", "coin_count": "house", "drawn": "house coin",
        "coin_of": "house cells",
    },
    "lives": {
        "is_story": "house value", "is_life": "house value", "upper": "house life drawer",
        "alike_above": "house one other drawer",
    },
    "runs": {
        "read": "house way life coins drawer page", "waiting": "house way life coins drawer",
        "places": "house way life coins drawer",
        "found_later": "house way life coins drawer page",
        "view": "house way life coins drawer times", "looks": "house way life coins drawer",
    },
    "parting": {
        "is_parted": "house way life coins drawer is_often",
        "parting": "house way drawer moments is_often",
        "safe_ways": "house drawer moments is_often",
    },
    "chances": {
        "row_count": "house life", "view_count": "house way life drawer times",
        "best_guess": "house way one other drawer times",
        "waiting_counts": "house way story drawer", "more_wait": "house way story drawer many",
        "loss_chance": "house life drawer page", "lives_on": "house copies moments",
        "least_cells": "house story drawer many top bottom",
    },
    "texts": {"written": "house life", "read_life": "text"},
}
FOLDER = Path(__file__).resolve().parent.parent / "hushdrawers"
STATEMENTS = (ast.Global, ast.AsyncFunctionDef, ast.AsyncFor, ast.AsyncWith, ast.Import, ast.Div)
MODULES = ("math", "itertools", "heapq", "collections")


class Interface(unittest.TestCase):
    def test_names_and_arguments(self):
        for name, functions in INTERFACE.items():
            module = importlib.import_module("hushdrawers." + name)
            for word, arguments in functions.items():
                function = getattr(module, word)
                self.assertEqual(function.__module__, module.__name__, word)
                self.assertEqual(list(inspect.signature(function).parameters), arguments.split())


    def test_desk(self):
        desk = importlib.import_module("hushdrawers.desk").Desk
        self.assertEqual(desk.__module__, "hushdrawers.desk")
        self.assertEqual(list(inspect.signature(desk).parameters), [])
        self.assertIn("do", vars(desk))
        self.assertEqual(list(inspect.signature(desk.do).parameters), ["self", "line"])


class Form(unittest.TestCase):
    """The rules of the language that are easily told by looking at the files."""

    def texts(self):
        for path in sorted(FOLDER.glob("**/*")):
            if "__pycache__" not in path.parts:
                self.assertEqual(path.suffix, ".py", path)
                yield path.name, path.read_bytes().decode("ascii")

    def test_lines_and_characters(self):
        for name, text in self.texts():
            lines = text.split("\n")
            self.assertLessEqual(len(lines), 399, name)
            self.assertLessEqual(max(map(len, lines)), 120, name)
            self.assertTrue(set(text) <= {"\n", *map(chr, range(32, 127))}, name)

    def test_functions_are_short(self):
        for name, text in self.texts():
            for node in ast.walk(ast.parse(text)):
                if isinstance(node, ast.FunctionDef):
                    self.assertLessEqual(node.end_lineno - node.lineno + 1, 40, (name, node.name))

    def test_statements_and_imports(self):
        for name, text in self.texts():
            for node in ast.walk(ast.parse(text)):
                self.assertNotIsInstance(node, STATEMENTS, name)
                if isinstance(node, ast.ImportFrom):
                    self.assertEqual(node.level, 0, name)
                    first = node.module.split(".")[0]
                    self.assertIn(first, (*MODULES, "hushdrawers"), name)
                if isinstance(node, ast.Constant):
                    self.assertNotIsInstance(node.value, (float, complex), name)


if __name__ == "__main__":
    unittest.main()
