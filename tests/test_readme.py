"""The examples of README.md: each block runs, and what stands behind a line as its answer is its answer."""

import ast
import re
import unittest
from pathlib import Path

README = Path(__file__).resolve().parent.parent / "README.md"
PACKAGE = README.parent / "stoke"


class ReadmeTest(unittest.TestCase):
    def test_examples(self):
        known = {}
        looked_at = 0
        for block in re.findall(r"```python\n(.*?)```", README.read_text(encoding="utf-8"), re.DOTALL):
            lines = block.split("\n")
            for node in ast.parse(block).body:
                if not isinstance(node, ast.Expr):
                    exec(compile(ast.Module([node], []), "README.md", "exec"), known)
                    continue
                found = eval(compile(ast.Expression(node.value), "README.md", "eval"), known)
                remark = lines[node.end_lineno - 1].partition("# ")[2]
                if found is not None:
                    self.assertTrue(remark == "" or remark.startswith(repr(found)), (lines[node.lineno - 1], found))
                    looked_at += remark != ""
        self.assertGreater(looked_at, 30)

    def test_each_module_is_told(self):
        text = README.read_text(encoding="utf-8")
        for path in PACKAGE.glob("*.py"):
            if path.stem != "__init__":
                self.assertIn(f"- `stoke.{path.stem}`: ", text)


if __name__ == "__main__":
    unittest.main()
