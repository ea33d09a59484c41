"""The README's examples tell what stands behind them."""

import ast
import pathlib
import re
import unittest

README = pathlib.Path(__file__).resolve().parent.parent / "README.md"


def value_in(comment):
    """The value that a comment begins with, up to a colon, in a list of one; [] of other words."""
    while comment:
        try:
            return [ast.literal_eval(comment.strip())]
        except (SyntaxError, ValueError):
            comment = comment.rpartition(":")[0]
    return []


class Readme(unittest.TestCase):
    def test_examples(self):
        known = {}
        checked = 0
        for block in re.findall("```python\n(.*?)```", README.read_text(), re.DOTALL):
            # One by one, as what an object tells hangs on the deeds ahead.
            for statement in ast.parse(block).body:
                line = block.splitlines()[statement.end_lineno - 1]
                told = self.told_by(statement, known)
                for due in value_in(line.partition("  # ")[2]) if isinstance(statement, (ast.Expr, ast.Assign)) else []:
                    self.assertEqual(repr(told), repr(due), line)
                    checked += 1
        self.assertGreater(checked, 70)

    def told_by(self, statement, known):
        """What the statement tells, or gives a name to; None of others."""
        if isinstance(statement, ast.Expr):
            return eval(ast.unparse(statement), known)
        exec(ast.unparse(statement), known)
        return eval(ast.unparse(statement.targets[0]), known) if isinstance(statement, ast.Assign) else None


if __name__ == "__main__":
    unittest.main()
