"""The form of the package: some of what LANGUAGE.md asks for, as far as a plain look at the files tells it."""

import ast
import pathlib
import unittest

FOLDER = pathlib.Path(__file__).resolve().parent.parent / "noughtcut"
LIBRARY = {"math": {"gcd", "lcm", "isqrt", "comb", "perm", "factorial"}}
CALLS_LEFT_OUT = {"print", "open", "input", "eval", "exec", "float", "round", "hash", "id", "vars", "dir", "chr", "bytes"}


def files():
    """The files of the package, in order."""
    return sorted(path for path in FOLDER.iterdir() if path.name != "__pycache__")


class FormTest(unittest.TestCase):
    def test_the_folder_holds_plain_files_alone(self):
        self.assertIn("__init__.py", [path.name for path in files()])
        for path in files():
            self.assertTrue(path.is_file(), path)
            self.assertRegex(path.name, r"\A(__init__|[a-z][a-z0-9_]*)\.py\Z")

    def test_signs_and_lengths(self):
        for path in files():
            text = path.read_bytes().decode("ascii")
            rows = text.splitlines()
            self.assertLessEqual(len(rows), 399, path)
            for row in rows:
                self.assertLessEqual(len(row), 120, (path, row))
                self.assertTrue(all(" " <= sign <= "~" for sign in row), (path, row))

    def test_functions_are_small_and_plain(self):
        for path in files():
            for node in ast.walk(ast.parse(path.read_text())):
                if isinstance(node, ast.FunctionDef):
                    self.assertLessEqual(node.end_lineno - node.lineno + 1, 40, (path, node.name))

    def test_imports_are_of_the_package_or_of_the_allowed_words(self):
        for path in files():
            for node in ast.walk(ast.parse(path.read_text())):
                self.assertNotIsInstance(node, ast.Import, path)
                if isinstance(node, ast.ImportFrom):
                    self.assertEqual(node.level, 0, path)
                    for name in node.names:
                        self.assertIsNone(name.asname, path)
                        if not node.module.startswith("noughtcut."):
                            self.assertIn(name.name, LIBRARY[node.module], path)

    def test_no_numbers_with_a_point_and_no_words_that_are_left_out(self):
        for path in files():
            for node in ast.walk(ast.parse(path.read_text())):
                if isinstance(node, ast.Constant):
                    self.assertNotIsInstance(node.value, (float, complex), path)
                    if isinstance(node.value, str):
                        self.assertNotIn(chr(37), node.value, path)
                self.assertNotIsInstance(node, (ast.Div, ast.Global, ast.AsyncFunctionDef), path)
                if isinstance(node, ast.Name):
                    self.assertNotIn(node.id, CALLS_LEFT_OUT, path)


if __name__ == "__main__":
    unittest.main()
