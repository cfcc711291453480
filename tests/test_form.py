"""The form of the package: what of ../shared/LANGUAGE.md is plain to count."""

import ast
import os
import re
import unittest

PACKAGE = os.path.join(os.path.dirname(os.path.dirname(os.path.abspath(__file__))), "foldpress")
LIBRARY = {"heapq", "math", "itertools", "collections", "__future__"}


def package_files():
    return sorted(name for name in os.listdir(PACKAGE) if name != "__pycache__")


def package_texts():
    for name in package_files():
        with open(os.path.join(PACKAGE, name), encoding="utf-8", newline="") as source:
            yield name, source.read()


def package_nodes():
    for name, text in package_texts():
        for node in ast.walk(ast.parse(text)):
            yield name, node


class TestForm(unittest.TestCase):
    def test_the_package_holds_plain_files_only(self):
        self.assertIn("__init__.py", package_files())
        for name in package_files():
            self.assertTrue(os.path.isfile(os.path.join(PACKAGE, name)), name)
            self.assertRegex(name, r"\A[a-z0-9_]+\.py\Z")
            self.assertFalse(name.startswith(("test", "law_")), name)

    def test_files_and_rows_are_short(self):
        for name, text in package_texts():
            self.assertLessEqual(len(text.splitlines()), 399, name)
            for row in text.splitlines():
                self.assertLessEqual(len(row), 120, (name, row))

    def test_functions_are_short(self):
        for name, node in package_nodes():
            if isinstance(node, ast.FunctionDef):
                self.assertLessEqual(node.end_lineno - node.lineno + 1, 40, (name, node.name))

    def test_signs_are_plain(self):
        for name, text in package_texts():
            self.assertIsNone(re.search(r"[^ -~\n]", text), name)

    def test_strings_have_no_percent_sign(self):
        for name, node in package_nodes():
            if isinstance(node, ast.Constant) and isinstance(node.value, str):
                self.assertNotIn("%", node.value, (name, node.lineno))

    def test_imports_are_of_the_package_by_full_names(self):
        for name, node in package_nodes():
            if isinstance(node, ast.Import):
                self.assertEqual((name, [part.name for part in node.names]), ("__main__.py", ["sys"]))
            if isinstance(node, ast.ImportFrom):
                self.assertEqual(node.level, 0, name)
                self.assertTrue(node.module.startswith("foldpress.") or node.module in LIBRARY, (name, node.module))
                self.assertNotIn("*", [part.name for part in node.names], name)

    def test_there_are_no_floats_and_no_plain_division(self):
        for name, node in package_nodes():
            self.assertNotIsInstance(node, ast.Div, name)
            if isinstance(node, ast.Constant):
                self.assertNotIsInstance(node.value, (float, complex), (name, node.lineno))


if __name__ == "__main__":
    unittest.main()
