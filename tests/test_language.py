"""Some of the rules that the code of the package keeps to: sizes, characters, imports, and what is not used."""

import ast
import unittest
from pathlib import Path

FOLDER = Path(__file__).resolve().parent.parent / "nearcurves"
FILES = sorted(FOLDER.glob("*.py"))
LIBRARY = {"math": {"gcd", "lcm", "isqrt", "comb", "perm", "factorial"}}


def trees():
    for path in FILES:
        yield path.name, ast.parse(path.read_text(encoding="utf-8"))


class TestLanguage(unittest.TestCase):
    def test_the_folder_has_files_of_the_package_alone(self):
        others = [path.name for path in FOLDER.iterdir() if path.name != "__pycache__" and path not in FILES]
        self.assertEqual(others, [])
        self.assertIn(FOLDER / "__init__.py", FILES)

    def test_lines_and_characters(self):
        for path in FILES:
            text = path.read_text(encoding="utf-8")
            self.assertEqual({sign for sign in text if sign != "\n" and not " " <= sign <= "~"}, set(), path.name)
            lines = text.split("\n")
            self.assertLessEqual(len(lines), 400, path.name)
            self.assertLessEqual(max(len(line) for line in lines), 120, path.name)

    def test_functions_are_small(self):
        for name, tree in trees():
            for node in ast.walk(tree):
                if isinstance(node, ast.FunctionDef):
                    self.assertLessEqual(node.end_lineno - node.lineno + 1, 40, f"{name}: {node.name}")

    def test_imports(self):
        own = {path.stem for path in FILES}
        for name, tree in trees():
            for node in ast.walk(tree):
                self.assertNotIsInstance(node, ast.Import, name)
                if isinstance(node, ast.ImportFrom):
                    allowed = LIBRARY.get(node.module)
                    if allowed is None:
                        package, _, module = node.module.partition(".")
                        self.assertTrue(package == "nearcurves" and module in own, f"{name}: {node.module}")
                    else:
                        self.assertLessEqual({alias.name for alias in node.names}, allowed, name)

    def test_whole_numbers_alone(self):
        for name, tree in trees():
            for node in ast.walk(tree):
                self.assertNotIsInstance(node, ast.Div, name)
                if isinstance(node, ast.Constant):
                    self.assertNotIsInstance(node.value, (float, complex), name)

    def test_what_is_not_used(self):
        barred = (ast.Global, ast.AsyncFunctionDef, ast.AsyncFor, ast.AsyncWith, ast.Await)
        for name, tree in trees():
            for node in ast.walk(tree):
                self.assertNotIsInstance(node, barred, name)


if __name__ == "__main__":
    unittest.main()
