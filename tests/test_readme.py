"""What README.md shows is so."""

import ast
import re
import unittest
from pathlib import Path

from thankways.desk import KINDS

README = Path(__file__).resolve().parent.parent / "README.md"


class TestReadme(unittest.TestCase):
    def test_what_its_rows_are_said_to_be(self):
        code = re.search(r"```python\n(.*?)```", README.read_text("ascii"), re.DOTALL).group(1)
        lines, names, shown = code.split("\n"), {}, 0
        for node in ast.parse(code).body:
            # Each row is run once: some change what they are asked of.
            if isinstance(node, ast.Expr):
                told = eval(ast.unparse(node.value), names)
            else:
                exec(ast.unparse(node), names)
                told = names.get(ast.unparse(node.targets[0])) if isinstance(node, ast.Assign) else None
            wanted = lines[node.end_lineno - 1].partition("  # ")[2]
            if isinstance(node, (ast.Expr, ast.Assign)) and re.match(r"[(\"A-Z0-9]", wanted):
                self.assertEqual(told, eval(wanted), ast.unparse(node))
                shown += 1
        self.assertGreaterEqual(shown, 30)

    def test_its_table_of_rows_is_that_of_the_desk(self):
        rows = re.findall(r"^\| (`.*`.*) \|.*\|$", README.read_text("ascii"), re.MULTILINE)
        words = {text.split(" ")[0] for row in rows for text in re.findall(r"`([a-z]+[^`]*)`", row)}
        self.assertGreaterEqual(words, set(KINDS) | {"come", "bring", "give", "hand", "forget", "go", "at"})
