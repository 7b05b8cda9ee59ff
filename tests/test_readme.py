"""The examples of README.md tell what they say."""

import ast
import pathlib
import re
import unittest

README = pathlib.Path(__file__).resolve().parent.parent / "README.md"


def examples():
    """The lines of the README's Python: statements, and expressions with the text of what they tell."""
    blocks = re.findall(r"```python\n(.*?)```", README.read_text(encoding="utf-8"), re.DOTALL)
    return "".join(blocks)


class ReadmeTest(unittest.TestCase):
    def test_each_told_value(self):
        text = examples()
        lines = text.split("\n")
        names = {}
        checked = 0
        for node in ast.parse(text).body:
            told = lines[node.end_lineno - 1].partition("#")[2].strip()
            source = ast.get_source_segment(text, node)
            if isinstance(node, ast.Expr):
                self.assertEqual(repr(eval(source, names)), repr(ast.literal_eval(told)), source)
                checked += 1
            else:
                exec(source, names)
        self.assertGreater(checked, 50)
        self.assertEqual(names["kept"], 7)


if __name__ == "__main__":
    unittest.main()
