"""The files of the package keep to the sizes, characters and imports that the language allows."""

import ast
import unittest
from pathlib import Path

ROOT = Path(__file__).resolve().parent.parent
PACKAGE = ROOT / "walkagon"
LIBRARY = {"math": ("gcd", "lcm", "isqrt", "comb", "perm", "factorial"),
           "itertools": ("product", "combinations", "permutations")}
DOUBLE_UNDERSCORE = ("__init__", "__eq__", "__repr__", "__str__", "__len__")
BUILTINS = ("len", "range", "enumerate", "zip", "min", "max", "sum", "abs", "sorted", "reversed", "int", "str",
            "bool", "list", "tuple", "dict", "set", "isinstance", "ord", "repr", "any", "all", "divmod",
            "type", "ValueError", "KeyError", "IndexError", "super", "property", "staticmethod", "classmethod")


def files():
    return sorted(path for path in PACKAGE.rglob("*") if path.is_file() and "__pycache__" not in path.parts)


def trees():
    return [(path, ast.parse(path.read_text())) for path in files()]


def bound_names(tree):
    """All names that a file gives a meaning, whatever their place."""
    found = set()
    for node in ast.walk(tree):
        if isinstance(node, (ast.FunctionDef, ast.ClassDef)):
            found.add(node.name)
        elif isinstance(node, ast.arg):
            found.add(node.arg)
        elif isinstance(node, ast.alias):
            found.add(node.name)
        elif isinstance(node, ast.Name) and isinstance(node.ctx, ast.Store):
            found.add(node.id)
    return found


class SourceTest(unittest.TestCase):
    def test_files(self):
        for path in files():
            with self.subTest(path=path):
                self.assertEqual(path.suffix, ".py")
                self.assertRegex(path.stem, r"\A[a-z0-9_]+\Z")
                self.assertTrue((path.parent / "__init__.py").is_file())

    def test_sizes_and_characters(self):
        for path in files():
            with self.subTest(path=path):
                lines = path.read_bytes().split(b"\n")
                self.assertLess(len(lines), 400)
                for line in lines:
                    self.assertLessEqual(len(line), 120)
                    self.assertEqual([code for code in line if code < 32 or code > 126], [])

    def test_functions_are_short(self):
        for path, tree in trees():
            for node in ast.walk(tree):
                if isinstance(node, ast.FunctionDef):
                    with self.subTest(path=path, function=node.name):
                        self.assertLessEqual(node.end_lineno - node.lineno + 1, 40)

    def test_imports(self):
        for path, tree in trees():
            for node in ast.walk(tree):
                self.assertNotIsInstance(node, ast.Import)
                if isinstance(node, ast.ImportFrom):
                    with self.subTest(path=path, module=node.module):
                        self.assertEqual(node.level, 0)
                        if node.module in LIBRARY:
                            self.assertLessEqual({alias.name for alias in node.names}, set(LIBRARY[node.module]))
                            continue
                        self.assertTrue(node.module.startswith("walkagon."))
                        file = ROOT / (node.module.replace(".", "/") + ".py")
                        self.assertTrue(file.is_file())
                        bound = bound_names(ast.parse(file.read_text()))
                        self.assertLessEqual({alias.name for alias in node.names}, bound)

    def test_only_known_builtins(self):
        for path, tree in trees():
            own = bound_names(tree)
            for node in ast.walk(tree):
                if isinstance(node, ast.Name) and node.id not in own:
                    with self.subTest(path=path, line=node.lineno):
                        self.assertIn(node.id, BUILTINS)

    def test_stars_stand_before_names(self):
        for path, tree in trees():
            for node in ast.walk(tree):
                if isinstance(node, ast.Call):
                    for argument in node.args:
                        if isinstance(argument, ast.Starred):
                            with self.subTest(path=path, line=node.lineno):
                                self.assertIsInstance(argument.value, ast.Name)

    def test_names(self):
        for path, tree in trees():
            for name in bound_names(tree):
                if name.startswith("__"):
                    with self.subTest(path=path, name=name):
                        self.assertIn(name, DOUBLE_UNDERSCORE)

    def test_strings_without_the_per_cent_sign(self):
        for path, tree in trees():
            for node in ast.walk(tree):
                if isinstance(node, ast.Constant) and isinstance(node.value, str):
                    with self.subTest(path=path, line=node.lineno):
                        self.assertNotIn("%", node.value)

    def test_neither_floats_nor_true_division(self):
        for path, tree in trees():
            for node in ast.walk(tree):
                with self.subTest(path=path):
                    self.assertNotIsInstance(node, ast.Div)
                    self.assertFalse(isinstance(node, ast.Constant) and isinstance(node.value, (float, complex)))


if __name__ == "__main__":
    unittest.main()
