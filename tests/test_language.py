"""Rules of ../shared/LANGUAGE.md that a short look at the files can check: L1, L2, L10 and L14."""

import ast
import unittest
from pathlib import Path

PACKAGE = Path(__file__).resolve().parent.parent / "sameloops"
FILES = sorted([path for path in PACKAGE.rglob("*") if path.is_file() and path.suffix != ".pyc"])
LIBRARY = {"heapq", "math", "itertools", "collections", "__future__"}


class LanguageTest(unittest.TestCase):

    def each(self):
        return [(path, path.read_text(encoding="utf-8")) for path in FILES]

    def test_files_and_characters(self):
        self.assertIn(PACKAGE / "__init__.py", FILES)
        for path, text in self.each():
            self.assertEqual(path.suffix, ".py")
            self.assertTrue(all(sign == "\n" or " " <= sign <= "~" for sign in text))

    def test_sizes(self):
        for _, text in self.each():
            self.assertLessEqual(len(text.splitlines()), 399)
            self.assertLessEqual(max([len(line) for line in text.splitlines()]), 120)
            for node in ast.walk(ast.parse(text)):
                if isinstance(node, ast.FunctionDef):
                    self.assertLessEqual(node.end_lineno - node.lineno + 1, 40, node.name)

    def test_imports(self):
        for _, text in self.each():
            for node in ast.walk(ast.parse(text)):
                self.assertNotIsInstance(node, ast.Import)
                if isinstance(node, ast.ImportFrom):
                    self.assertEqual(node.level, 0)
                    self.assertTrue(node.module.startswith("sameloops.") or node.module in LIBRARY, node.module)


if __name__ == "__main__":
    unittest.main()
