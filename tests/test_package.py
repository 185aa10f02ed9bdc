import ast
import doctest
import importlib
import inspect
import os
import unittest

ROOT = os.path.dirname(os.path.dirname(os.path.abspath(__file__)))
FOLDER = os.path.join(ROOT, "pressroots")

# What the document lists under the heading of each file, with the names of the arguments.
INTERFACE = {
    "texts": {"check_text": ["text"], "check_places": ["size", "places"]},
    "words": {"occurrences": ["text", "word"], "counts": ["text"], "distinct": ["text", "length"]},
    "kinds": {"kinds": ["text"], "kind_of": ["text", "word"]},
    "rows": {"row_of": ["text"]},
    "roots": {
        "judge_root": ["text", "places", "longest"], "check_table": ["text", "places", "table", "longest"],
        "meeting": ["text", "places", "word"], "address": ["text", "places", "word"], "needed": ["text", "places"],
        "thinned": ["text", "places"]},
    "led": {
        "join_roots": ["text", "places", "other", "others"], "power_root": ["text", "places", "times"],
        "mirror_root": ["text", "places"], "recode_root": ["text", "places", "table"]},
    "floors": {
        "floor": ["text"], "least_size": ["text"], "lonely": ["text"], "must_keep": ["text"],
        "forced": ["text", "paper"], "paper_of": ["text"]},
    "makers": {
        "greedy": ["text"], "fresh": ["text"], "fewest": ["text", "stretches"], "by_halves": ["text"],
        "quickened": ["press"], "pressed": ["text"], "rating": ["press"], "can_press": ["text", "size"]},
    "search": {"found": ["press", "word"]},
    "edits": {
        "replaced": ["press", "position", "letter"], "inserted": ["press", "position", "letter"],
        "deleted": ["press", "position"], "recoded": ["press", "table"], "cut": ["press", "start", "stop"]},
}
# What the document lists for each class, with the names of the arguments behind the object.
CLASSES = {
    "press": {"Press": {"text": [], "root": [], "facts": []}},
    "copies": {"Copies": {
        "__init__": ["phrases"], "__iter__": [], "verdict": [], "length": [], "size": [], "letter": ["position"],
        "copies": [], "facts": [], "spans": [], "ends": [], "sources": [], "chain": ["position"], "depths": [],
        "rings": [], "fixed": ["letters"], "tidied": [], "is_earlier": [], "__add__": ["other"],
        "__mul__": ["other"], "__neg__": [], "__str__": []}},
    "rules": {"Rules": {
        "__init__": ["rules"], "verdict": [], "size": [], "length": [], "letter": ["position"], "copies": [],
        "facts": [], "lengths": [], "height": [], "used": [], "trail": ["position"], "__add__": ["other"],
        "__mul__": ["other"], "__neg__": []}},
    "rows": {"Row": {
        "__init__": ["letters"], "verdict": [], "size": [], "length": [], "letter": ["position"], "copies": [],
        "facts": [], "steps": [], "runs": [], "starts": [], "spans": ["word"]}},
    "ladders": {"Ladder": {
        "__init__": ["length", "levels"], "verdict": [], "size": [], "length": [], "letter": ["position"],
        "copies": [], "facts": [], "trail": ["position"], "stretch": ["start", "stop"], "opened": []}},
    "desk": {"Desk": {
        "__init__": ["room"], "change_room": ["room"], "press": ["name"], "run": ["command"],
        "run_all": ["commands"], "undo": [], "written": []}},
}
# Static or class methods, with the names of the arguments.
OFF_CLASSES = {
    "copies": {"Copies": {"read": ["line"]}},
    "ladders": {"Ladder": {"over": ["text", "places"], "counted": ["text"]}},
    "desk": {"Desk": {"read": ["lines", "room"]}},
}
# What is passed by keyword alone.
KEYWORDS = {"roots": {"judge_root": {"longest": 128}, "check_table": {"longest": 128}}}
ALLOWED_IMPORTS = ("__future__", "heapq", "math", "itertools", "collections")


def trees():
    """List the names and the parsed contents of all files of the package."""
    found = []
    for name in sorted(os.listdir(FOLDER)):
        if name.endswith(".py"):
            with open(os.path.join(FOLDER, name), encoding="ascii") as file:
                found.append((name, ast.parse(file.read())))
    return found


class PackageTest(unittest.TestCase):
    def test_the_folder_contains_only_python_files(self):
        names = [name for name in os.listdir(FOLDER) if name != "__pycache__"]
        self.assertIn("__init__.py", names)
        for name in names:
            self.assertTrue(name.endswith(".py"), name)

    def test_functions_are_defined_where_the_interface_lists_them(self):
        for name, functions in INTERFACE.items():
            module = importlib.import_module("pressroots." + name)
            for function, arguments in functions.items():
                with self.subTest(function):
                    value = getattr(module, function)
                    self.assertTrue(inspect.isfunction(value))
                    self.assertEqual(value.__module__, module.__name__)
                    self.assertEqual(list(inspect.signature(value).parameters), arguments)

    def test_methods_are_defined_in_the_class_itself(self):
        for name, classes in CLASSES.items():
            module = importlib.import_module("pressroots." + name)
            for title, methods in classes.items():
                kind = getattr(module, title)
                self.assertEqual(kind.__module__, module.__name__)
                for method, arguments in methods.items():
                    with self.subTest(title, method=method):
                        value = vars(kind)[method]
                        self.assertTrue(inspect.isfunction(value))
                        self.assertEqual(list(inspect.signature(value).parameters), ["self"] + arguments)

    def test_methods_that_are_called_off_the_class(self):
        for name, classes in OFF_CLASSES.items():
            module = importlib.import_module("pressroots." + name)
            for title, methods in classes.items():
                kind = getattr(module, title)
                for method, arguments in methods.items():
                    with self.subTest(title, method=method):
                        self.assertIsInstance(vars(kind)[method], (staticmethod, classmethod))
                        self.assertEqual(list(inspect.signature(getattr(kind, method)).parameters), arguments)

    def test_properties(self):
        kind = importlib.import_module("pressroots.desk").Desk
        for name, setter in (("names", False), ("total", False), ("room", True)):
            self.assertIsInstance(vars(kind)[name], property)
            self.assertEqual(vars(kind)[name].fset is not None, setter)

    def test_room_is_passed_by_keyword(self):
        kind = importlib.import_module("pressroots.desk").Desk
        for function in (kind, kind.read):
            room = inspect.signature(function).parameters["room"]
            self.assertEqual((room.kind, room.default), (room.KEYWORD_ONLY, 512))

    def test_arguments_that_are_passed_by_keyword(self):
        for name, functions in KEYWORDS.items():
            module = importlib.import_module("pressroots." + name)
            for function, wanted in functions.items():
                parameters = inspect.signature(getattr(module, function)).parameters.values()
                keywords = {one.name: one.default for one in parameters if one.kind is one.KEYWORD_ONLY}
                self.assertEqual(keywords, wanted, function)

    def test_files_functions_and_lines_are_short(self):
        for name, tree in trees():
            with open(os.path.join(FOLDER, name), encoding="ascii") as file:
                lines = file.read().split("\n")
            self.assertLess(len(lines), 400, name)
            self.assertLessEqual(max(len(line) for line in lines), 120, name)
            for node in ast.walk(tree):
                if isinstance(node, ast.FunctionDef):
                    self.assertLessEqual(node.end_lineno - node.lineno + 1, 40, (name, node.name))

    def test_nothing_from_outside_is_imported(self):
        for name, tree in trees():
            for node in ast.walk(tree):
                self.assertNotIsInstance(node, ast.Import, name)
                if isinstance(node, ast.ImportFrom):
                    top = node.module.split(".")[0]
                    self.assertTrue(top == "pressroots" or node.module in ALLOWED_IMPORTS, (name, node.module))

    def test_there_are_no_floating_point_numbers_and_no_files(self):
        for name, tree in trees():
            for node in ast.walk(tree):
                self.assertNotIsInstance(node, ast.Div, name)
                if isinstance(node, ast.Constant):
                    self.assertNotIsInstance(node.value, float, name)
                if isinstance(node, ast.Name):
                    self.assertNotIn(node.id, ("float", "open", "input", "print"), name)

    def test_the_examples_of_the_readme_hold(self):
        result = doctest.testfile(os.path.join(ROOT, "README.md"), module_relative=False)
        self.assertGreater(result.attempted, 0)
        self.assertEqual(result.failed, 0)
