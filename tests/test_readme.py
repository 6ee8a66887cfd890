"""The examples of README.md tell what it says they tell."""

import ast
import os
import re
import unittest

import shelvesmoved

README = os.path.join(os.path.dirname(os.path.dirname(shelvesmoved.__file__)), "README.md")


def examples():
    """The rows of all examples, each with what stands behind it as a comment."""
    with open(README, encoding="utf-8") as held:
        blocks = re.findall(r"```python\n(.*?)```", held.read(), re.DOTALL)
    for block in blocks:
        rows = block.split("\n")
        for node in ast.parse(block).body:
            told = re.search(r"  # (.*)$", rows[node.end_lineno - 1])
            yield node, told and told.group(1)


class ReadmeTest(unittest.TestCase):
    def test_examples(self):
        names, many = {}, 0
        for node, told in examples():
            if not isinstance(node, ast.Expr):
                exec(compile(ast.Module([node], []), "README.md", "exec"), names)
                continue
            answer = eval(compile(ast.Expression(node.value), "README.md", "eval"), names)
            self.assertIsNotNone(told, ast.unparse(node))
            self.assertTrue(told.startswith(repr(answer).replace("'", '"')), (ast.unparse(node), answer, told))
            many += 1
        self.assertGreater(many, 20)


if __name__ == "__main__":
    unittest.main()
