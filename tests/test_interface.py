"""The interface: each name stands in its file, with the arguments that the document lists."""

import ast
import os
import unittest

import shelvesmoved

FOLDER = os.path.dirname(shelvesmoved.__file__)

FUNCTIONS = {
    "words": {"is_whole": ["thing", "low", "high"], "is_name": ["thing"], "whole_in": ["thing", "low", "high"]},
    "marks": {
        "is_mark": ["thing"], "mark_parts": ["mark"], "mark_of": ["parts"], "mark_ahead": ["one", "other"],
        "marks_in_order": ["marks"], "unlike_marks": ["marks"], "begins_with": ["mark", "beginning"],
    },
    "volumes": {
        "is_volume": ["thing"], "need_volume": ["thing"], "volume_ahead": ["one", "other"],
        "are_in_order": ["things"],
    },
    "shelves": {"house_of": ["shelves", "rows"]},
    "cutting": {
        "cut_fewest": ["widths", "lengths", "keep"], "shows_ends": ["widths", "lengths", "keep", "ends"],
        "fewest_for": ["widths", "lengths", "keep", "spare"], "cut_spread": ["widths", "lengths"],
        "shows_spread": ["widths", "lengths", "free", "ends", "more"],
    },
}

# The methods of each class, with their arguments behind self.
CLASSES = {
    "stock": {"Stock": {
        "__init__": [], "put_in": ["volume"], "drop": ["name"], "widen": ["name", "width"], "volumes": [], "names": [],
        "many": [], "total": [], "volume": ["name"], "spot": ["name"], "of_mark": ["size", "mark"], "alike": ["name"],
        "copied": [],
    }},
    "runs": {"Scheme": {
        "__init__": ["runs"], "runs": [], "names": [], "run": ["name"], "run_of": ["volume"], "span": ["name"],
        "parted": ["stock"], "lost": ["stock"], "split": ["name", "fresh", "mark"], "joined": ["name"],
    }},
    "shelves": {"House": {
        "__init__": ["shelves"], "stand": ["shelf", "volume"], "take": ["name"], "shift": ["name", "shelf"],
        "shelves": [], "row": ["shelf"], "free": ["shelf"], "rows": [], "volumes": [], "many": [], "where": ["name"],
        "copied": [],
    }},
}


def read(module):
    with open(os.path.join(FOLDER, module + ".py"), encoding="utf-8") as held:
        return ast.parse(held.read())


class InterfaceTest(unittest.TestCase):
    def test_functions_stand_in_their_files(self):
        for module, functions in FUNCTIONS.items():
            defined = {row.name: row for row in read(module).body if isinstance(row, ast.FunctionDef)}
            for name, arguments in functions.items():
                self.assertIn(name, defined)
                self.assertEqual([word.arg for word in defined[name].args.args], arguments, name)

    def test_methods_stand_in_their_classes(self):
        for module, classes in CLASSES.items():
            defined = {row.name: row for row in read(module).body if isinstance(row, ast.ClassDef)}
            for name, methods in classes.items():
                found = {row.name: row for row in defined[name].body if isinstance(row, ast.FunctionDef)}
                for method, arguments in methods.items():
                    told = [word.arg for word in found[method].args.args]
                    self.assertEqual(told, ["self"] + arguments, (name, method))

    def test_only_the_keep_may_be_left_out(self):
        for module in list(FUNCTIONS) + list(CLASSES):
            for row in ast.walk(read(module)):
                if isinstance(row, ast.FunctionDef):
                    some = [default.value for default in row.args.defaults]
                    self.assertEqual(some, [0] if row.name == "cut_fewest" else [], row.name)


if __name__ == "__main__":
    unittest.main()
