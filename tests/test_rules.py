"""The plainest rules of LANGUAGE.md: files, sizes, characters and imports of the package."""

import ast
import unittest
import warnings
from pathlib import Path

import ownhues

FOLDER = Path(ownhues.__file__).parent


def files():
    """The files of the package, as (path, text)."""
    return [(path, path.read_text(encoding="utf-8")) for path in sorted(FOLDER.rglob("*.py"))]


class RulesTest(unittest.TestCase):

    def test_the_folder_holds_nothing_else(self):
        for path in FOLDER.rglob("*"):
            if "__pycache__" not in path.parts:
                self.assertTrue(path.is_dir() or path.suffix == ".py", path)
        self.assertTrue((FOLDER / "__init__.py").is_file())

    def test_sizes(self):
        for path, text in files():
            lines = text.splitlines()
            self.assertLessEqual(len(lines), 399, path)
            for line in lines:
                self.assertLessEqual(len(line), 120, (path, line))
            for node in ast.walk(ast.parse(text)):
                if isinstance(node, ast.FunctionDef):
                    self.assertLessEqual(node.end_lineno - node.lineno + 1, 40, (path, node.name))

    def test_characters(self):
        for path, text in files():
            for sign in text:
                self.assertTrue(sign == "\n" or " " <= sign <= "~", (path, sign))

    def test_python_gives_no_warning(self):
        for path, text in files():
            with warnings.catch_warnings():
                warnings.simplefilter("error")
                compile(text, str(path), "exec")

    def test_imports(self):
        library = ("heapq", "math", "itertools", "collections", "__future__")
        for path, text in files():
            for node in ast.walk(ast.parse(text)):
                if isinstance(node, ast.Import):
                    self.assertEqual((path.name, [name.name for name in node.names]), ("__main__.py", ["sys"]))
                if isinstance(node, ast.ImportFrom):
                    self.assertEqual(node.level, 0, path)
                    self.assertTrue(node.module in library or node.module.startswith("ownhues."), (path, node.module))


if __name__ == "__main__":
    unittest.main()
