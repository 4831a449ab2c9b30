import ast
import pathlib
import re
import unittest

README = (pathlib.Path(__file__).resolve().parent.parent / "README.md").read_text("utf-8")


class Readme(unittest.TestCase):
    def test_each_value_told_in_a_remark_is_what_the_row_gives(self):
        held_against = 0
        for block in re.findall(r"```python\n(.*?)```", README, re.DOTALL):
            names = {}
            for node in ast.parse(block).body:
                exec(compile(ast.Module([node], []), "README.md", "exec"), names)
                remark = block.split("\n")[node.end_lineno - 1].partition("#")[2]
                if isinstance(node, ast.Expr) and remark.strip().startswith("("):
                    wanted = ast.literal_eval(remark.partition(":")[0].strip())
                    found = eval(compile(ast.Expression(node.value), "README.md", "eval"), names)
                    self.assertEqual(found, wanted)
                    held_against += 1
        self.assertGreaterEqual(held_against, 4)

    def test_each_module_is_told(self):
        package = pathlib.Path(__file__).resolve().parent.parent / "reusewise"
        for path in package.glob("[a-z]*.py"):
            self.assertIn(f"`reusewise.{path.stem}`", README)


if __name__ == "__main__":
    unittest.main()
