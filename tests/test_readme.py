"""The examples of README.md."""

import ast
import pathlib
import re
import unittest

README = pathlib.Path(__file__).resolve().parent.parent / "README.md"


class Examples(unittest.TestCase):
    def test_what_stands_behind_each_line(self):
        names, many = {}, 0
        for block in re.findall("```python\n(.*?)```", README.read_text(encoding="ascii"), re.DOTALL):
            for statement in ast.parse(block).body:
                line = block.splitlines()[statement.end_lineno - 1]
                if isinstance(statement, ast.Expr):
                    found = eval(ast.unparse(statement), names)
                else:
                    exec(ast.unparse(statement), names)
                    found = None
                    if isinstance(statement, ast.Assign):
                        found = eval(ast.unparse(statement.targets[0]), names)
                _, _, told = line.partition("  # ")
                # What begins with a small letter tells something else.
                if re.match("[^a-z]", told):
                    self.assertTrue(told.startswith(repr(found).replace("'", '"')), (line, found))
                    many += 1
        self.assertGreater(many, 50)


if __name__ == "__main__":
    unittest.main()
