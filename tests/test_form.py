"""The form of the package: what of ../shared/LANGUAGE.md is plain to count."""

import ast
import builtins
import os
import re
import unittest

PACKAGE = os.path.join(os.path.dirname(os.path.dirname(os.path.abspath(__file__))), "foldpress")
LIBRARY = {"heapq", "math", "itertools", "collections", "__future__"}
# L8 and L25, as far as the package needs them.
BUILTINS = set("""len range enumerate zip min max sum abs sorted reversed int str bool list tuple dict set isinstance
    ord repr any all divmod ValueError TypeError KeyError""".split())
METHODS = set("""append clear copy count endswith extend find get index insert isalnum isalpha isdigit islower isspace
    isupper items join keys ljust lower lstrip partition pop remove replace reverse rfind rjust rpartition rsplit rstrip
    setdefault split splitlines startswith strip update upper values zfill bit_length""".split())
BARRED = set("""type typing enum Enum Generic Protocol ABC namedtuple NamedTuple register mro elements open input law
    version_info os gc sys id vars dir exit help""".split())


def package_files():
    return sorted(name for name in os.listdir(PACKAGE) if name != "__pycache__")


def package_texts():
    for name in package_files():
        with open(os.path.join(PACKAGE, name), encoding="utf-8", newline="") as source:
            yield name, source.read()


def package_nodes():
    for name, text in package_texts():
        for node in ast.walk(ast.parse(text)):
            yield name, node


class TestForm(unittest.TestCase):
    def test_the_package_holds_plain_files_only(self):
        self.assertIn("__init__.py", package_files())
        for name in package_files():
            self.assertTrue(os.path.isfile(os.path.join(PACKAGE, name)), name)
            self.assertRegex(name, r"\A[a-z0-9_]+\.py\Z")
            self.assertFalse(name.startswith(("test", "law_")), name)

    def test_files_and_rows_are_short(self):
        for name, text in package_texts():
            self.assertLessEqual(len(text.splitlines()), 399, name)
            for row in text.splitlines():
                self.assertLessEqual(len(row), 120, (name, row))

    def test_functions_are_short(self):
        for name, node in package_nodes():
            if isinstance(node, ast.FunctionDef):
                self.assertLessEqual(node.end_lineno - node.lineno + 1, 40, (name, node.name))

    def test_signs_are_plain(self):
        for name, text in package_texts():
            self.assertIsNone(re.search(r"[^ -~\n]", text), name)

    def test_strings_have_no_percent_sign(self):
        for name, node in package_nodes():
            if isinstance(node, ast.Constant) and isinstance(node.value, str):
                self.assertNotIn("%", node.value, (name, node.lineno))

    def test_imports_are_of_the_package_by_full_names(self):
        for name, node in package_nodes():
            if isinstance(node, ast.Import):
                self.assertEqual((name, [part.name for part in node.names]), ("__main__.py", ["sys"]))
            if isinstance(node, ast.ImportFrom):
                self.assertEqual(node.level, 0, name)
                self.assertTrue(node.module.startswith("foldpress.") or node.module in LIBRARY, (name, node.module))
                self.assertNotIn("*", [part.name for part in node.names], name)

    def test_there_are_no_floats_and_no_plain_division(self):
        for name, node in package_nodes():
            self.assertNotIsInstance(node, ast.Div, name)
            if isinstance(node, ast.Constant):
                self.assertNotIsInstance(node.value, (float, complex), (name, node.lineno))

    def test_names_are_free(self):
        for name, node in package_nodes():
            bound = [node.name] if isinstance(node, (ast.FunctionDef, ast.ClassDef)) else []
            bound += [node.arg] if isinstance(node, ast.arg) else []
            bound += [node.id] if isinstance(node, ast.Name) and isinstance(node.ctx, ast.Store) else []
            for word in bound:
                self.assertNotIn(word, vars(builtins), name)
                self.assertNotIn(word, BARRED, name)

    def test_builtins_are_among_those_allowed(self):
        for name, node in package_nodes():
            if isinstance(node, ast.Name) and node.id in vars(builtins):
                self.assertIn(node.id, BUILTINS, (name, node.lineno))

    def test_methods_are_own_ones_or_among_those_allowed(self):
        own = {inner.name for _, node in package_nodes() if isinstance(node, ast.ClassDef) for inner in node.body
               if isinstance(inner, ast.FunctionDef)}
        for name, node in package_nodes():
            if isinstance(node, ast.Call) and isinstance(node.func, ast.Attribute):
                self.assertIn(node.func.attr, own | METHODS, (name, node.lineno))

    def test_imported_names_are_used_and_not_bound_again(self):
        for name, text in package_texts():
            nodes = list(ast.walk(ast.parse(text)))
            imported = [part.name for node in nodes if isinstance(node, ast.ImportFrom) for part in node.names]
            used = {node.id for node in nodes if isinstance(node, ast.Name) and isinstance(node.ctx, ast.Load)}
            bound = {node.id for node in nodes if isinstance(node, ast.Name) and isinstance(node.ctx, ast.Store)}
            bound |= {node.arg for node in nodes if isinstance(node, ast.arg)}
            for word in imported:
                self.assertIn(word, used, name)
                self.assertNotIn(word, bound, name)


if __name__ == "__main__":
    unittest.main()
