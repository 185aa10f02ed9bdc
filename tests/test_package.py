import ast
import doctest
import importlib
import inspect
import os
import unittest

ROOT = os.path.dirname(os.path.dirname(os.path.abspath(__file__)))
FOLDER = os.path.join(ROOT, "pressroots")

# What the document lists under the heading of each file, with the names of the arguments.
INTERFACE = {
    "texts": {"check_text": ["text"], "check_places": ["size", "places"]},
    "words": {"occurrences": ["text", "word"], "counts": ["text"], "distinct": ["text", "length"]},
    "kinds": {"kinds": ["text"], "kind_of": ["text", "word"]},
}
ALLOWED_IMPORTS = ("__future__", "heapq", "math", "itertools", "collections")


def trees():
    """List the names and the parsed contents of all files of the package."""
    found = []
    for name in sorted(os.listdir(FOLDER)):
        if name.endswith(".py"):
            with open(os.path.join(FOLDER, name), encoding="ascii") as file:
                found.append((name, ast.parse(file.read())))
    return found


class PackageTest(unittest.TestCase):
    def test_the_folder_contains_only_python_files(self):
        names = [name for name in os.listdir(FOLDER) if name != "__pycache__"]
        self.assertIn("__init__.py", names)
        for name in names:
            self.assertTrue(name.endswith(".py"), name)

    def test_functions_are_defined_where_the_interface_lists_them(self):
        for name, functions in INTERFACE.items():
            module = importlib.import_module("pressroots." + name)
            for function, arguments in functions.items():
                with self.subTest(function):
                    value = getattr(module, function)
                    self.assertTrue(inspect.isfunction(value))
                    self.assertEqual(value.__module__, module.__name__)
                    self.assertEqual(list(inspect.signature(value).parameters), arguments)

    def test_nothing_from_outside_is_imported(self):
        for name, tree in trees():
            for node in ast.walk(tree):
                self.assertNotIsInstance(node, ast.Import, name)
                if isinstance(node, ast.ImportFrom):
                    top = node.module.split(".")[0]
                    self.assertTrue(top == "pressroots" or node.module in ALLOWED_IMPORTS, (name, node.module))

    def test_there_are_no_floating_point_numbers_and_no_files(self):
        for name, tree in trees():
            for node in ast.walk(tree):
                self.assertNotIsInstance(node, ast.Div, name)
                if isinstance(node, ast.Constant):
                    self.assertNotIsInstance(node.value, float, name)
                if isinstance(node, ast.Name):
                    self.assertNotIn(node.id, ("float", "open", "input", "print"), name)

    def test_the_examples_of_the_readme_hold(self):
        result = doctest.testfile(os.path.join(ROOT, "README.md"), module_relative=False)
        self.assertGreater(result.attempted, 0)
        self.assertEqual(result.failed, 0)
