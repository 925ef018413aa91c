"""The form of the package: its files, its imports, and where things are defined."""

import ast
import pathlib
import unittest

PACKAGE = pathlib.Path(__file__).resolve().parent.parent / "smalti"

# The modules in the order of the interface: each imports only from those above it.
ORDER = ["errors", "cells", "pictures"]

LIBRARY = {
    "heapq": {"heappush", "heappop", "heapify", "heapreplace", "heappushpop"},
    "math": {"gcd", "lcm", "isqrt", "comb", "perm", "factorial"},
    "itertools": {"product", "combinations", "permutations"},
}

# What would reach files, the clock, the network or the Python beneath.
BARRED = {"open", "input", "print", "eval", "exec", "compile", "globals", "locals", "vars",
          "getattr", "setattr", "delattr", "hasattr", "breakpoint", "id", "hash"}

DEFINED = {
    "cells": {
        "Region": {"__init__", "of", "cells", "within", "__or__", "__and__", "__sub__", "__xor__",
                   "__eq__", "__contains__", "__len__", "__bool__", "__str__"},
    },
    "pictures": {
        "Picture": {"__init__", "read", "plain", "lines", "stones", "holes", "contains", "with_sign",
                    "__getitem__", "__len__", "__str__", "__eq__", "__sub__"},
    },
}


def trees():
    return {path.stem: ast.parse(path.read_text()) for path in sorted(PACKAGE.glob("*.py"))}


class Form(unittest.TestCase):
    def test_the_folder_holds_only_python_files(self):
        for path in PACKAGE.iterdir():
            if path.name != "__pycache__":
                self.assertEqual(path.suffix, ".py", path.name)

    def test_size_and_characters(self):
        for path in PACKAGE.glob("*.py"):
            lines = path.read_text(encoding="utf-8").split("\n")
            self.assertLessEqual(len(lines) - 1, 399, path.name)
            for line in lines:
                self.assertLessEqual(len(line), 120, path.name)
                self.assertTrue(all(" " <= sign <= "~" for sign in line), f"{path.name}: {line}")

    def test_functions_are_short(self):
        for name, tree in trees().items():
            for node in ast.walk(tree):
                if isinstance(node, ast.FunctionDef):
                    self.assertLessEqual(node.end_lineno - node.lineno + 1, 40, f"{name}: {node.name}")

    def test_imports_come_from_modules_above_or_the_allowed_library(self):
        for name, tree in trees().items():
            for node in ast.walk(tree):
                self.assertNotIsInstance(node, ast.Import, name)
                if isinstance(node, ast.ImportFrom):
                    self.check_import(name, node)

    def check_import(self, name, node):
        self.assertEqual(node.level, 0, name)
        names = {alias.name for alias in node.names}
        if node.module in LIBRARY:
            self.assertLessEqual(names, LIBRARY[node.module], name)
        else:
            package, _, module = node.module.partition(".")
            self.assertEqual(package, "smalti", name)
            self.assertIn(module, ORDER[:ORDER.index(name)], name)

    def test_no_files_no_clock_no_state_of_the_interpreter(self):
        for name, tree in trees().items():
            for node in ast.walk(tree):
                if isinstance(node, ast.Name):
                    self.assertNotIn(node.id, BARRED, name)
                self.assertNotIsInstance(node, (ast.Global, ast.Div, ast.AsyncFunctionDef), name)

    def test_classes_and_methods_stand_where_the_interface_lists_them(self):
        found = trees()
        for name, classes in DEFINED.items():
            bodies = {node.name: node.body for node in found[name].body if isinstance(node, ast.ClassDef)}
            for own, methods in classes.items():
                defined = {node.name for node in bodies[own] if isinstance(node, ast.FunctionDef)}
                self.assertLessEqual(methods, defined, own)


if __name__ == "__main__":
    unittest.main()
