"""The examples of README.md: what stands behind a # is what the row returns."""

import ast
import pathlib
import re
import unittest

README = pathlib.Path(__file__).resolve().parent.parent / "README.md"


class ReadmeTest(unittest.TestCase):
    def test_each_row_returns_what_stands_behind_it(self):
        names, some = {}, 0
        for block in re.findall(r"```python\n(.*?)```", README.read_text(), re.DOTALL):
            rows = block.split("\n")
            for node in ast.parse(block).body:
                source = ast.get_source_segment(block, node)
                _, sign, told = rows[node.end_lineno - 1].partition("#")
                if isinstance(node, ast.Expr) and sign:
                    self.assertEqual(eval(source, names), ast.literal_eval(told.strip()), source)
                    some += 1
                else:
                    exec(source, names)
        self.assertGreater(some, 50)


if __name__ == "__main__":
    unittest.main()
