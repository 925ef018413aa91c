"""The form of the package: its files, its imports, and where things are defined."""

import ast
import pathlib
import unittest

PACKAGE = pathlib.Path(__file__).resolve().parent.parent / "smalti"

# The modules in the order of the interface: each imports only from those above it.
ORDER = ["errors", "cells", "pictures", "rules", "books", "sketches", "sites", "peeling", "histories", "clashes",
         "ordering", "counting", "inquiries", "chronicles"]

LIBRARY = {
    "heapq": {"heappush", "heappop", "heapify", "heapreplace", "heappushpop"},
    "math": {"gcd", "lcm", "isqrt", "comb", "perm", "factorial"},
    "itertools": {"product", "combinations", "permutations"},
}

# What would reach files, the clock, the network or the Python beneath.
BARRED = {"open", "input", "print", "eval", "exec", "compile", "globals", "locals", "vars",
          "getattr", "setattr", "delattr", "hasattr", "breakpoint", "id", "hash"}

DEFINED = {
    "cells": {
        "Region": {"__init__", "of", "cells", "within", "__or__", "__and__", "__sub__", "__xor__",
                   "__eq__", "__contains__", "__len__", "__bool__", "__str__"},
    },
    "pictures": {
        "Picture": {"__init__", "read", "plain", "lines", "stones", "holes", "contains", "with_sign",
                    "__getitem__", "__len__", "__str__", "__eq__", "__sub__"},
    },
    "rules": {
        "Rule": {"__init__", "slack", "lays", "conditions", "__len__", "clashes", "fits", "written"},
        "CountRule": {"__init__", "slack", "written"},
        "SameRule": {"__init__", "lays", "conditions", "written"},
    },
    "books": {
        "Book": {"__init__", "read", "text", "rule", "fitting", "__len__", "__add__"},
    },
    "sketches": {
        "Sketch": {"__init__", "read", "of", "allow", "__getitem__", "__setitem__", "text", "fits", "ways",
                   "copy", "__and__", "__eq__"},
    },
    "sites": {
        "Mender": {"__init__", "__call__"},
        "Site": {"__init__", "picture", "mended", "total", "fall", "mend", "mendings", "log", "undo", "run"},
    },
    "histories": {
        "History": {"__init__", "read", "text", "last", "mended_cells", "mending_count"},
    },
    "clashes": {
        "Clash": {"__init__"},
    },
    "inquiries": {
        "Inquiry": {"__init__", "picture", "kept", "marked", "required", "missing", "possible", "limit", "keep", "mark",
                    "release", "correct", "undo", "change_limit", "verdict", "verdicts", "cells_with", "select",
                    "report", "history", "why_old", "why_new", "why_impossible", "surely_after", "beginnings",
                    "beginnings_count", "fewest", "fewest_cells", "bound", "suppose"},
    },
    "chronicles": {
        "Chronicle": {"__init__", "show", "drop", "change_book", "photograph", "stretch", "__len__", "dates",
                      "histories", "fewest", "never_mended"},
    },
}

# The functions of the interface that stand in no class.
FUNCTIONS = {
    "rules": {"read_rule"},
    "sketches": {"required_cells"},
    "peeling": {"loose_waves", "loosened", "wave_of", "opening_rule"},
    "histories": {"check_history", "history_mending"},
    "clashes": {"clash_of", "check_clash"},
    "ordering": {"surely_after", "history_not_after"},
    "counting": {"fewest", "fewest_cells", "bound_of", "check_bound"},
}

# The parameters that the interface names, with their default values; those behind the star are
# passed by keyword.
PARAMETERS = {
    "rules.read_rule": "line",
    "rules.Rule.__init__": "self stone conditions",
    "rules.Rule.lays": "self stone",
    "rules.Rule.conditions": "self stone",
    "rules.Rule.clashes": "self picture x y stone * loose=None",
    "rules.Rule.fits": "self picture x y stone * loose=None",
    "rules.CountRule.__init__": "self stone conditions need",
    "rules.SameRule.__init__": "self places need",
    "rules.SameRule.lays": "self stone",
    "rules.SameRule.conditions": "self stone",
    "books.Book.__init__": "self rules",
    "books.Book.read": "cls text",
    "books.Book.rule": "self number",
    "books.Book.fitting": "self picture x y stone * loose=None",
    "sketches.required_cells": "sketch picture",
    "sketches.Sketch.read": "cls text",
    "sketches.Sketch.of": "cls picture",
    "sketches.Sketch.allow": "self x y signs",
    "sketches.Sketch.fits": "self picture",
    "sites.Mender.__init__": "self book number",
    "sites.Mender.__call__": "self picture x y stone",
    "sites.Site.__init__": "self book picture",
    "sites.Site.fall": "self x y",
    "sites.Site.mend": "self x y number stone",
    "sites.Site.mendings": "self x y",
    "sites.Site.run": "self deeds",
    "peeling.loose_waves": "book picture * held=None",
    "peeling.loosened": "book picture * held=None",
    "peeling.wave_of": "book picture x y * held=None",
    "peeling.opening_rule": "book picture x y * held=None",
    "histories.check_history": "book sketch picture history",
    "histories.history_mending": "book sketch picture * held=None",
    "histories.History.__init__": "self first deeds",
    "histories.History.read": "cls text",
    "histories.History.text": "self",
    "histories.History.last": "self book",
    "histories.History.mended_cells": "self",
    "histories.History.mending_count": "self",
    "clashes.clash_of": "book picture x y * held=None",
    "clashes.check_clash": "book picture clash * held=None",
    "clashes.Clash.__init__": "self region refusals",
    "ordering.surely_after": "book picture x y * held=None",
    "ordering.history_not_after": "book sketch picture cell other * held=None",
    "counting.fewest": "book sketch picture * held=None marked=None limit=LIMIT",
    "counting.fewest_cells": "book sketch picture * held=None marked=None limit=LIMIT",
    "counting.bound_of": "book sketch picture * held=None marked=None limit=LIMIT",
    "counting.check_bound": "book sketch picture number rows * held=None marked=None",
    "inquiries.Inquiry.__init__": "self book sketch picture",
    "inquiries.Inquiry.keep": "self *cells",
    "inquiries.Inquiry.mark": "self *cells",
    "inquiries.Inquiry.release": "self *cells",
    "inquiries.Inquiry.correct": "self x y sign",
    "inquiries.Inquiry.undo": "self",
    "inquiries.Inquiry.change_limit": "self value",
    "inquiries.Inquiry.verdict": "self x y",
    "inquiries.Inquiry.verdicts": "self",
    "inquiries.Inquiry.cells_with": "self word",
    "inquiries.Inquiry.select": "self **wanted",
    "inquiries.Inquiry.report": "self",
    "inquiries.Inquiry.history": "self * without=None",
    "inquiries.Inquiry.why_old": "self x y",
    "inquiries.Inquiry.why_new": "self x y",
    "inquiries.Inquiry.why_impossible": "self",
    "inquiries.Inquiry.surely_after": "self x y",
    "inquiries.Inquiry.beginnings": "self x y",
    "inquiries.Inquiry.beginnings_count": "self",
    "inquiries.Inquiry.fewest": "self",
    "inquiries.Inquiry.fewest_cells": "self",
    "inquiries.Inquiry.bound": "self",
    "inquiries.Inquiry.suppose": "self ask * keep=() mark=()",
    "chronicles.Chronicle.__init__": "self book sketch",
    "chronicles.Chronicle.show": "self picture",
    "chronicles.Chronicle.drop": "self",
    "chronicles.Chronicle.change_book": "self book",
    "chronicles.Chronicle.photograph": "self number",
    "chronicles.Chronicle.stretch": "self number",
    "chronicles.Chronicle.dates": "self x y",
    "chronicles.Chronicle.histories": "self",
    "chronicles.Chronicle.fewest": "self",
    "chronicles.Chronicle.never_mended": "self",
}


def trees():
    return {path.stem: ast.parse(path.read_text()) for path in sorted(PACKAGE.glob("*.py"))}


def shown_parameters(arguments):
    names = [argument.arg for argument in arguments.args]
    if arguments.vararg:
        names.append("*" + arguments.vararg.arg)
    elif arguments.kwonlyargs:
        names.append("*")
    for argument, default in zip(arguments.kwonlyargs, arguments.kw_defaults):
        names.append(argument.arg + ("" if default is None else "=" + ast.unparse(default)))
    if arguments.kwarg:
        names.append("**" + arguments.kwarg.arg)
    return " ".join(names)


class Form(unittest.TestCase):
    def test_the_folder_holds_only_python_files(self):
        for path in PACKAGE.iterdir():
            if path.name != "__pycache__":
                self.assertEqual(path.suffix, ".py", path.name)

    def test_size_and_characters(self):
        for path in PACKAGE.glob("*.py"):
            lines = path.read_text(encoding="utf-8").split("\n")
            self.assertLessEqual(len(lines) - 1, 399, path.name)
            for line in lines:
                self.assertLessEqual(len(line), 120, path.name)
                self.assertTrue(all(" " <= sign <= "~" for sign in line), f"{path.name}: {line}")

    def test_functions_are_short(self):
        for name, tree in trees().items():
            for node in ast.walk(tree):
                if isinstance(node, ast.FunctionDef):
                    self.assertLessEqual(node.end_lineno - node.lineno + 1, 40, f"{name}: {node.name}")

    def test_imports_come_from_modules_above_or_the_allowed_library(self):
        for name, tree in trees().items():
            for node in ast.walk(tree):
                self.assertNotIsInstance(node, ast.Import, name)
                if isinstance(node, ast.ImportFrom):
                    self.check_import(name, node)

    def check_import(self, name, node):
        self.assertEqual(node.level, 0, name)
        names = {alias.name for alias in node.names}
        if node.module in LIBRARY:
            self.assertLessEqual(names, LIBRARY[node.module], name)
        else:
            package, _, module = node.module.partition(".")
            self.assertEqual(package, "smalti", name)
            self.assertIn(module, ORDER[:ORDER.index(name)], name)

    def test_no_files_no_clock_no_state_of_the_interpreter(self):
        for name, tree in trees().items():
            for node in ast.walk(tree):
                if isinstance(node, ast.Name):
                    self.assertNotIn(node.id, BARRED, name)
                self.assertNotIsInstance(node, (ast.Global, ast.Div, ast.AsyncFunctionDef), name)

    def test_classes_and_methods_stand_where_the_interface_lists_them(self):
        found = trees()
        for name, classes in DEFINED.items():
            bodies = {node.name: node.body for node in found[name].body if isinstance(node, ast.ClassDef)}
            for own, methods in classes.items():
                defined = {node.name for node in bodies[own] if isinstance(node, ast.FunctionDef)}
                self.assertLessEqual(methods, defined, own)

    def test_functions_stand_where_the_interface_lists_them(self):
        found = trees()
        for name, functions in FUNCTIONS.items():
            defined = {node.name for node in found[name].body if isinstance(node, ast.FunctionDef)}
            self.assertLessEqual(functions, defined, name)

    def test_parameters_have_the_names_of_the_interface(self):
        found = trees()
        for path, expected in PARAMETERS.items():
            module, *inner = path.split(".")
            node = found[module]
            for name in inner:
                node = next(part for part in node.body if getattr(part, "name", None) == name)
            self.assertEqual(shown_parameters(node.args), expected, path)


if __name__ == "__main__":
    unittest.main()
