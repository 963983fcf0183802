"""The rules of the language that can be read off the files of the package."""

import ast
import unittest
from pathlib import Path

PACKAGE = Path(__file__).resolve().parent.parent / "dicepairs"
FILES = sorted(path for path in PACKAGE.rglob("*") if "__pycache__" not in path.parts)
LIBRARY = {"math", "itertools", "collections", "heapq", "__future__"}


def nodes():
    """Return (file name, node) of all nodes of all files."""
    trees = [(path.name, ast.parse(path.read_text(encoding="ascii"))) for path in FILES]
    return [(name, node) for name, tree in trees for node in ast.walk(tree)]


class Rules(unittest.TestCase):
    def test_the_folder_holds_nothing_but_its_files(self):
        self.assertIn(PACKAGE / "__init__.py", FILES)
        for path in FILES:
            self.assertRegex(path.name, r"\A[a-z0-9_]+\.py\Z")

    def test_signs_and_lengths(self):
        for path in FILES:
            with self.subTest(path.name):
                text = path.read_text(encoding="ascii")
                self.assertRegex(text, r"\A[ -~\n]*\Z")
                self.assertLess(len(text.splitlines()), 400)
                self.assertLessEqual(max(len(line) for line in text.splitlines()), 120)

    def test_functions_have_at_most_40_lines(self):
        for name, node in nodes():
            if isinstance(node, ast.FunctionDef):
                self.assertLessEqual(node.end_lineno - node.lineno + 1, 40, (name, node.name))

    def test_imports(self):
        for name, node in nodes():
            self.assertNotIsInstance(node, ast.Import, name)
            if isinstance(node, ast.ImportFrom):
                self.assertEqual(node.level, 0, name)
                own = node.module.split(".")[0] == "dicepairs"
                self.assertTrue(own or node.module in LIBRARY, (name, node.module))

    def test_no_numbers_with_a_point(self):
        for name, node in nodes():
            self.assertNotIsInstance(node, ast.Div, name)
            if isinstance(node, ast.Constant):
                self.assertNotIsInstance(node.value, (float, complex), name)


if __name__ == "__main__":
    unittest.main()
