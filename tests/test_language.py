"""The rules of the language that can be counted: files, imports, sizes and signs."""

import ast
import unittest
from pathlib import Path

PACKAGE = Path(__file__).resolve().parent.parent / "mastershow"
LIBRARY = ("__future__", "heapq", "math", "itertools", "collections")


def sources():
    return sorted(path for path in PACKAGE.rglob("*") if path.is_file() and "__pycache__" not in path.parts)


def trees():
    for path in sources():
        yield path, ast.parse(path.read_text())


class LanguageTest(unittest.TestCase):
    def test_the_package_has_only_python_files(self):
        self.assertIn(PACKAGE / "__init__.py", sources())
        for path in sources():
            self.assertEqual(path.suffix, ".py", path)

    def test_files_and_lines_are_short_and_plain(self):
        for path in sources():
            text = path.read_text()
            rows = text.splitlines()
            self.assertLessEqual(len(rows), 399, path)
            self.assertLessEqual(max(map(len, rows)), 120, path)
            self.assertEqual([sign for sign in text if sign != "\n" and not " " <= sign <= "~"], [], path)

    def test_functions_are_short(self):
        for path, tree in trees():
            for node in ast.walk(tree):
                if isinstance(node, ast.FunctionDef):
                    self.assertLessEqual(node.end_lineno - node.lineno + 1, 40, f"{path} {node.name}")

    def test_imports_are_from_the_package_by_full_names(self):
        for path, tree in trees():
            for node in ast.walk(tree):
                self.assertNotIsInstance(node, ast.Import, path)
                if isinstance(node, ast.ImportFrom):
                    self.assertEqual(node.level, 0, path)
                    self.assertIn(node, tree.body, path)
                    self.assertNotIn("*", [name.name for name in node.names], path)
                    self.assertTrue(node.module.startswith("mastershow.") or node.module in LIBRARY, path)
