"""The code of README.md runs, and gives what the comments beside it say."""

import ast
import pathlib
import re
import unittest

TEXT = (pathlib.Path(__file__).resolve().parent.parent / "README.md").read_text()


def told_value(line):
    """What the comment of a line says, as a tuple of one value, or () if this is no value."""
    comment = line.partition("  # ")[2]
    for text in (comment, comment.partition(": ")[0], comment.rpartition(", ")[0]):
        try:
            return (ast.literal_eval(text),)
        except (SyntaxError, ValueError):
            continue
    return ()


class Readme(unittest.TestCase):
    def test_code(self):
        blocks = re.findall("```python\n(.*?)```", TEXT, re.S)
        self.assertEqual(len(blocks), 6)
        names, looked_at = {}, 0
        for block in blocks:
            for node in ast.parse(block).body:
                code = ast.get_source_segment(block, node)
                if isinstance(node, ast.Expr):
                    value = eval(code, names)
                    told = told_value(block.split("\n")[node.end_lineno - 1])
                    if told:
                        self.assertEqual(value, told[0], code)
                        looked_at += 1
                else:
                    exec(code, names)
        self.assertGreater(looked_at, 28)


if __name__ == "__main__":
    unittest.main()
