"""The interface: each name stands in its file, with the arguments that the document lists."""

import ast
import os
import unittest

import shelvesmoved

FOLDER = os.path.dirname(shelvesmoved.__file__)

FUNCTIONS = {
    "words": {"is_whole": ["thing", "low", "high"], "is_name": ["thing"], "whole_in": ["thing", "low", "high"]},
    "marks": {
        "is_mark": ["thing"], "mark_parts": ["mark"], "mark_of": ["parts"], "mark_ahead": ["one", "other"],
        "marks_in_order": ["marks"], "unlike_marks": ["marks"], "begins_with": ["mark", "beginning"],
    },
    "volumes": {
        "is_volume": ["thing"], "need_volume": ["thing"], "volume_ahead": ["one", "other"],
        "are_in_order": ["things"],
    },
    "shelves": {"house_of": ["shelves", "rows"]},
    "cutting": {
        "cut_fewest": ["widths", "lengths", "keep"], "shows_ends": ["widths", "lengths", "keep", "ends"],
        "fewest_for": ["widths", "lengths", "keep", "spare"], "cut_spread": ["widths", "lengths"],
        "shows_spread": ["widths", "lengths", "free", "ends", "more"],
    },
    "plans": {
        "planned": ["scheme", "stock", "shelves", "years", "even"],
        "most_years": ["scheme", "stock", "shelves", "most"],
    },
    "carts": {
        "loads": ["groups", "capacity"], "shows_loads": ["groups", "capacity", "thing"],
        "days_left": ["counts", "windows", "days"], "fewest_carts": ["counts", "windows", "days"],
        "shows_carts": ["counts", "windows", "days", "many", "schedule", "paper"],
        "shows_never": ["counts", "windows", "days", "paper"],
    },
    "looks": {
        "seek": ["row", "size", "mark", "name"], "shows_seek": ["row", "size", "mark", "name", "thing"],
        "most_looks": ["many"], "sought": ["move", "size", "mark", "name"], "most_sought": ["move"],
    },
    "widening": {
        "widened": ["lengths", "rows", "volume"], "shows_widened": ["lengths", "rows", "volume", "thing"],
    },
    "casetext": {
        "show_case": ["shelves", "scheme", "stock"], "read_case": ["text"], "show_house": ["house"],
        "read_house": ["text"],
    },
    "desklines": {"read_line": ["line"]},
}

# What may be left out of a call, and what it is then.
DEFAULTS = {"cut_fewest": [0], "planned": [False], "seek": [None], "sought": [None]}

# The methods of each class, with their arguments behind self.
CLASSES = {
    "stock": {"Stock": {
        "__init__": [], "put_in": ["volume"], "drop": ["name"], "widen": ["name", "width"], "volumes": [], "names": [],
        "many": [], "total": [], "volume": ["name"], "spot": ["name"], "of_mark": ["size", "mark"], "alike": ["name"],
        "copied": [],
    }},
    "runs": {"Scheme": {
        "__init__": ["runs"], "runs": [], "names": [], "run": ["name"], "run_of": ["volume"], "span": ["name"],
        "parted": ["stock"], "lost": ["stock"], "split": ["name", "fresh", "mark"], "joined": ["name"],
    }},
    "shelves": {"House": {
        "__init__": ["shelves"], "stand": ["shelf", "volume"], "take": ["name"], "shift": ["name", "shelf"],
        "shelves": [], "row": ["shelf"], "free": ["shelf"], "rows": [], "volumes": [], "many": [], "where": ["name"],
        "copied": [],
    }},
    "plans": {"Plan": {
        "told": [], "gap": ["name"], "fills": ["name"], "volumes_of": ["name"], "rows": [], "house": [], "used": [],
        "years": [], "runs": [], "volumes": [], "shelves": [],
    }},
    "moving": {"Move": {
        "__init__": ["old", "plan", "capacity", "carts"], "load": ["cart"], "drive": ["cart"], "unload": ["cart"],
        "ask": ["name"], "back": ["name"], "where": ["name"], "old_house": [], "new_house": [], "on_cart": ["cart"],
        "cart_at": ["cart"], "load_of": ["cart"], "carts": [], "out": [], "loads": [], "left": [], "ended": [],
        "journal": [], "copied": [],
    }},
    "desk": {"Desk": {"__init__": [], "say": ["line"], "run_lines": ["lines"]}},
}


def read(module):
    with open(os.path.join(FOLDER, module + ".py"), encoding="utf-8") as held:
        return ast.parse(held.read())


class InterfaceTest(unittest.TestCase):
    def test_functions_stand_in_their_files(self):
        for module, functions in FUNCTIONS.items():
            defined = {row.name: row for row in read(module).body if isinstance(row, ast.FunctionDef)}
            for name, arguments in functions.items():
                self.assertIn(name, defined)
                self.assertEqual([word.arg for word in defined[name].args.args], arguments, name)

    def test_methods_stand_in_their_classes(self):
        for module, classes in CLASSES.items():
            defined = {row.name: row for row in read(module).body if isinstance(row, ast.ClassDef)}
            for name, methods in classes.items():
                found = {row.name: row for row in defined[name].body if isinstance(row, ast.FunctionDef)}
                for method, arguments in methods.items():
                    told = [word.arg for word in found[method].args.args]
                    self.assertEqual(told, ["self"] + arguments, (name, method))

    def test_what_may_be_left_out(self):
        for module in list(FUNCTIONS) + list(CLASSES):
            for row in ast.walk(read(module)):
                if isinstance(row, ast.FunctionDef):
                    some = [default.value for default in row.args.defaults]
                    self.assertEqual(some, DEFAULTS.get(row.name, []), row.name)


if __name__ == "__main__":
    unittest.main()
