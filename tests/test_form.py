import ast
import pathlib
import re
import unittest

from tests.form import faults, methods_of

PACKAGE = pathlib.Path(__file__).resolve().parent.parent / "wordrules"


def module_name(path):
    return "wordrules" if path.stem == "__init__" else "wordrules." + path.stem


class FormTest(unittest.TestCase):
    def setUp(self):
        self.files = sorted(path for path in PACKAGE.iterdir() if path.name != "__pycache__")
        self.trees = {module_name(path): ast.parse(path.read_text("utf-8")) for path in self.files}

    def test_files(self):
        self.assertIn("__init__.py", [path.name for path in self.files])
        for path in self.files:
            self.assertTrue(path.is_file() and re.fullmatch(r"[a-z0-9_]+\.py", path.name), path)

    def test_each_file_keeps_to_the_language(self):
        own = [method for tree in self.trees.values() for method in methods_of(tree)]
        for path in self.files:
            self.assertEqual(faults(path.read_text("utf-8"), own), [], path.name)

    def drawn_from(self, name):
        return [node for node in self.trees[name].body if isinstance(node, ast.ImportFrom)]

    def test_names_are_drawn_from_the_file_that_defines_them(self):
        for name in self.trees:
            for node in self.drawn_from(name):
                defined = [inner.name for inner in self.trees[node.module].body
                           if isinstance(inner, (ast.FunctionDef, ast.ClassDef))]
                defined += [inner.targets[0].id for inner in self.trees[node.module].body
                            if isinstance(inner, ast.Assign)]
                for alias in node.names:
                    self.assertIn(alias.name, defined, name)

    def test_all_that_is_drawn_is_used(self):
        for name, tree in self.trees.items():
            used = {inner.id for inner in ast.walk(tree) if isinstance(inner, ast.Name)}
            for node in self.drawn_from(name):
                for alias in node.names:
                    self.assertIn(alias.name, used, name)

    def test_no_two_files_draw_from_one_another(self):
        left = {name: {node.module for node in self.drawn_from(name)} for name in self.trees}
        while left:
            free = [name for name in left if not left[name] & set(left)]
            self.assertTrue(free, left)
            left = {name: drawn for name, drawn in left.items() if name not in free}

    def test_no_name_is_a_method_in_one_class_and_a_value_in_another(self):
        methods, values = set(), set()
        for tree in self.trees.values():
            for node in ast.walk(tree):
                if isinstance(node, ast.ClassDef):
                    methods |= {part.name for part in node.body if isinstance(part, ast.FunctionDef)}
                if isinstance(node, ast.Attribute) and isinstance(node.ctx, ast.Store):
                    values.add(node.attr)
        self.assertEqual(methods & values, set())

    def test_faults_are_seen(self):
        for rule, text in (
            ("L3", "import sys"), ("L2", "from os import path"), ("L2", "from .errors import x"),
            ("L3", "xs = [1, [2]]"), ("L3", "f()"), ("L4", "def f(*xs):\n    return xs"),
            ("L5", "class C:\n    x = 1"), ("L6", "def f(x):\n    assert x"), ("L6", "def f(x):\n    a, b = x"),
            ("L7", "def f(x):\n    return any(y for y in x)"), ("L7", "def f(x):\n    return x / 2"),
            ("L7", "def f():\n    return 1.5"), ("L8", "def f(x):\n    return hash(x)"),
            ("L10", "x = 1  " + "#" * 120), ("L12", "def f(_x):\n    return _x"), ("L14", "x = 1  # \u00e9"),
            ("L15", "x = 1\nx = 2"), ("L15", "def f(map):\n    return map"), ("L17", "x = 1  # a type"),
            ("L19", "def f():\n    try:\n        g()\n    except Exception:\n        pass"),
            ("L20", "def f(x):\n    return x is f"), ("L22", "def f(x):\n    return int(x, base=3)"),
            ("L23", "def f(x):\n    y = zip(x, x)\n    return y"), ("L24", "def f(x):\n    y = set(x)\n    return y"),
            ("L23", "def f(x):\n    for y in x:\n        x.append(y)"),
            ("L25", "def f(x):\n    return x.title()"), ("L27", "x = '%'"), ("L27", "def f(n):\n    return 2 ** n"),
        ):
            self.assertTrue([fault for fault in faults(text) if f": {rule} " in fault], text)


if __name__ == "__main__":
    unittest.main()
