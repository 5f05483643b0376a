"""What README.md shows is so."""

import ast
import re
import unittest
from pathlib import Path

README = Path(__file__).resolve().parent.parent / "README.md"


class TestReadme(unittest.TestCase):
    def test_what_its_rows_are_said_to_be(self):
        code = re.search(r"```python\n(.*?)```", README.read_text("ascii"), re.DOTALL).group(1)
        lines, names, shown = code.split("\n"), {}, 0
        for node in ast.parse(code).body:
            exec(ast.unparse(node), names)
            wanted = lines[node.end_lineno - 1].partition("  # ")[2]
            if isinstance(node, (ast.Expr, ast.Assign)) and re.match(r"[(\"A-Z0-9]", wanted):
                self.assertEqual(eval(ast.unparse(node.value), names), eval(wanted), wanted)
                shown += 1
        self.assertGreaterEqual(shown, 15)
