"""Those rules of the language subset that can be told at a glance: files, imports, sizes, signs, words."""

import ast
import builtins
import os
import re
import unittest

import shelvesmoved

FOLDER = os.path.dirname(shelvesmoved.__file__)
LIBRARY = ["heapq", "math", "itertools", "collections", "__future__"]
BARRED_ROWS = (ast.AsyncFunctionDef, ast.AsyncFor, ast.AsyncWith, ast.Await, ast.Import, ast.Div)
BARRED_WORDS = re.compile(r"\b(typing|enum|Enum|namedtuple|NamedTuple|Generic|Protocol|ABC)\b|dataclass|overload|_wall")
PLAIN_ROWS = (ast.ImportFrom, ast.FunctionDef, ast.ClassDef, ast.Assign, ast.Expr)


def files():
    names = [name for name in sorted(os.listdir(FOLDER)) if name != "__pycache__"]
    return [(name, os.path.join(FOLDER, name)) for name in names]


def texts():
    for name, path in files():
        with open(path, encoding="utf-8") as held:
            yield name, held.read()


class LanguageTest(unittest.TestCase):
    def test_the_folder_has_python_files_alone(self):
        for name, path in files():
            self.assertTrue(os.path.isfile(path), name)
            self.assertRegex(name, r"\A[a-z_][a-z0-9_]*\.py\Z")

    def test_signs_and_sizes(self):
        for name, text in texts():
            rows = text.split("\n")
            self.assertLessEqual(len(rows) - 1, 399, name)
            self.assertLessEqual(max(len(row) for row in rows), 120, name)
            self.assertRegex(text, r"\A[ -~\n]*\Z", name)
            self.assertIsNone(BARRED_WORDS.search(text), name)

    def test_functions_are_small(self):
        for name, text in texts():
            for row in ast.walk(ast.parse(text)):
                if isinstance(row, ast.FunctionDef):
                    self.assertLessEqual(row.end_lineno - row.lineno + 1, 40, (name, row.name))

    def test_imports(self):
        for name, text in texts():
            for row in ast.walk(ast.parse(text)):
                self.assertNotIsInstance(row, BARRED_ROWS, name)
                if isinstance(row, ast.ImportFrom):
                    self.assertEqual(row.level, 0, name)
                    known = row.module.startswith("shelvesmoved.") or row.module in LIBRARY
                    self.assertTrue(known, (name, row.module))

    def test_module_level_is_plain(self):
        for name, text in texts():
            for row in ast.parse(text).body:
                self.assertIsInstance(row, PLAIN_ROWS, name)
                if isinstance(row, ast.Expr):
                    self.assertIsInstance(row.value, ast.Constant, name)

    def test_strings(self):
        for name, text in texts():
            for row in ast.walk(ast.parse(text)):
                self.assertNotIsInstance(getattr(row, "value", None), (float, complex), name)
                if isinstance(row, ast.Constant) and isinstance(row.value, str):
                    self.assertNotIn(chr(37), row.value, name)

    def test_names_are_plain(self):
        for name, text in texts():
            tree = ast.parse(text)
            imports = {held.name for row in tree.body if isinstance(row, ast.ImportFrom) for held in row.names}
            classes = {row.name for row in tree.body if isinstance(row, ast.ClassDef)}
            self.assertEqual(imports - {row.id for row in ast.walk(tree) if isinstance(row, ast.Name)}, set(), name)
            for row in ast.walk(tree):
                if isinstance(row, ast.FunctionDef):
                    self.assertEqual(locals_of(row) & (set(dir(builtins)) | imports | classes), set(), (name, row.name))

    def test_no_two_files_import_from_each_other(self):
        imports = {}
        for name, text in texts():
            rows = [row for row in ast.walk(ast.parse(text)) if isinstance(row, ast.ImportFrom)]
            imports["shelvesmoved." + name[:-3]] = {row.module for row in rows}
        # File by file those go that import from none that is left.
        while imports:
            done = [name for name, others in imports.items() if not others & set(imports)]
            self.assertNotEqual(done, [], imports)
            for name in done:
                del imports[name]


def locals_of(function):
    """The names of a function's parameters and variables."""
    names = {word.arg for word in ast.walk(function.args) if isinstance(word, ast.arg)}
    stored = [row.id for row in ast.walk(function) if isinstance(row, ast.Name) and isinstance(row.ctx, ast.Store)]
    return names | set(stored)


if __name__ == "__main__":
    unittest.main()
