"""The README's examples tell what stands behind them."""

import ast
import pathlib
import re
import unittest

README = pathlib.Path(__file__).resolve().parent.parent / "README.md"


def value_in(comment):
    """The value that a comment begins with, up to a colon, in a list of one; [] of other words."""
    while comment:
        try:
            return [ast.literal_eval(comment.strip())]
        except (SyntaxError, ValueError):
            comment = comment.rpartition(":")[0]
    return []


class Readme(unittest.TestCase):
    def test_examples(self):
        known = {}
        checked = 0
        for block in re.findall("```python\n(.*?)```", README.read_text(), re.DOTALL):
            exec(block, known)
            for line in block.splitlines():
                code, mark, comment = line.partition("  # ")
                for due in value_in(comment):
                    told = eval(code.rpartition(" = ")[2].strip(), known)
                    self.assertEqual(repr(told), repr(due), line)
                    checked += 1
        self.assertGreater(checked, 30)


if __name__ == "__main__":
    unittest.main()
