"""The interface: each name stands in its file, with the arguments that the document lists."""

import ast
import os
import unittest

import shelvesmoved

FOLDER = os.path.dirname(shelvesmoved.__file__)

FUNCTIONS = {
    "words": {"is_whole": ["thing", "low", "high"], "is_name": ["thing"], "whole_in": ["thing", "low", "high"]},
    "marks": {
        "is_mark": ["thing"], "mark_parts": ["mark"], "mark_of": ["parts"], "mark_ahead": ["one", "other"],
        "marks_in_order": ["marks"], "unlike_marks": ["marks"], "begins_with": ["mark", "beginning"],
    },
    "volumes": {
        "is_volume": ["thing"], "need_volume": ["thing"], "volume_ahead": ["one", "other"],
        "are_in_order": ["things"],
    },
}


def read(module):
    with open(os.path.join(FOLDER, module + ".py"), encoding="utf-8") as held:
        return ast.parse(held.read())


class InterfaceTest(unittest.TestCase):
    def test_functions_stand_in_their_files(self):
        for module, functions in FUNCTIONS.items():
            defined = {row.name: row for row in read(module).body if isinstance(row, ast.FunctionDef)}
            for name, arguments in functions.items():
                self.assertIn(name, defined)
                self.assertEqual([word.arg for word in defined[name].args.args], arguments, name)


if __name__ == "__main__":
    unittest.main()
