"""Tests of the package's form: where the interface is defined, and the sizes and signs of its files."""

import ast
import importlib
import inspect
import unittest
import warnings
from pathlib import Path

from monthclamp.plans import Plan

PACKAGE = Path(__file__).resolve().parent.parent / "monthclamp"

INTERFACE = {
    "errors": {
        "DateError": None,
        "InvalidDate": ["self", "value"],
        "InvalidNumber": ["self", "value"],
        "NothingToUndo": ["self", "value"],
        "Unreadable": ["self", "value"],
    },
    "months": {"is_leap": ["year"], "days_in": ["year", "month"]},
    "steps": {"move": ["date", "steps"], "visits": ["steps"]},
    "normal": {
        "normal_form": ["steps"],
        "same_effect": ["first", "second"],
        "commute": ["first", "second"],
    },
    "parting": {"parting_date": ["first", "second"]},
    "shortest": {"fewest_steps": ["steps"], "shortest_list": ["steps"]},
    "origins": {"origins": ["steps", "date"], "uncut_dates": ["steps"]},
    "renewals": {
        "renew": ["date", "step", "times"],
        "anchored": ["date", "step", "times"],
        "renewal_dates": ["date", "step"],
        "first_difference": ["date", "step"],
    },
    "counting": {"count_effects": ["total"]},
    "plans": {"Plan": ["self", "start"]},
    "texts": {"show_date": ["date"], "show_steps": ["steps"]},
    "readings": {"read_date": ["text"], "read_steps": ["text"]},
}

# What the interface lists for the class Plan, which is to be defined in it itself.
PLAN = {
    "start": ["self"],
    "date": ["self"],
    "lost": ["self"],
    "step": ["self", "months"],
    "undo": ["self"],
    "restart": ["self", "date"],
    "history": ["self"],
    "read": ["cls", "text"],
}


def parameters(thing):
    """Return the names of the parameters of a function, or of a class's own __init__."""
    call = vars(thing)["__init__"] if inspect.isclass(thing) else thing
    return list(inspect.signature(call).parameters)


class InterfaceTest(unittest.TestCase):
    def test_each_name_is_defined_in_its_file_with_its_parameters(self):
        for file, names in INTERFACE.items():
            module = importlib.import_module(f"monthclamp.{file}")
            for name, told in names.items():
                thing = getattr(module, name)
                self.assertEqual(thing.__module__, f"monthclamp.{file}", name)
                if told is not None:
                    self.assertEqual(parameters(thing), told, name)

    def test_each_method_of_a_plan_is_defined_in_the_class_with_its_parameters(self):
        self.assertEqual(Plan.__bases__, (object,))
        for name, told in PLAN.items():
            thing = vars(Plan)[name]
            call = thing.fget if isinstance(thing, property) else getattr(thing, "__func__", thing)
            self.assertEqual(parameters(call), told, name)


class FilesTest(unittest.TestCase):
    def sources(self):
        found = sorted(PACKAGE.glob("*.py"))
        self.assertGreater(len(found), 4)
        return [(path.name, path.read_bytes()) for path in found]

    def test_the_package_holds_only_python_files(self):
        other = [path.name for path in PACKAGE.iterdir() if path.suffix != ".py" and path.name != "__pycache__"]
        self.assertEqual(other, [])

    def test_signs_and_sizes(self):
        for name, source in self.sources():
            self.assertTrue(all(sign == 10 or 32 <= sign <= 126 for sign in source), name)
            lines = source.decode("ascii").split("\n")
            self.assertLess(len(lines), 400, name)
            self.assertLessEqual(max(map(len, lines)), 120, name)

    def test_functions_are_short(self):
        for name, source in self.sources():
            for node in ast.walk(ast.parse(source)):
                if isinstance(node, ast.FunctionDef):
                    self.assertLessEqual(node.end_lineno - node.lineno + 1, 40, (name, node.name))

    def test_imports_come_from_the_package_or_the_allowed_library(self):
        library = ("__future__", "collections", "heapq", "itertools", "math")
        for name, source in self.sources():
            for node in ast.walk(ast.parse(source)):
                self.assertNotIsInstance(node, ast.Import, name)
                if isinstance(node, ast.ImportFrom):
                    allowed = node.module.startswith("monthclamp.") or node.module in library
                    self.assertTrue(allowed, (name, node.module))

    def test_python_has_no_warning_for_any_file(self):
        with warnings.catch_warnings():
            warnings.simplefilter("error")
            for name, source in self.sources():
                compile(source, name, "exec")


if __name__ == "__main__":
    unittest.main()
