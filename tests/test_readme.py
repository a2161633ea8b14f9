"""The code that README.md shows runs, and tells what stands beside it."""

import ast
import os
import re
import unittest

HERE = os.path.dirname(os.path.dirname(os.path.abspath(__file__)))


def plain_value(remark):
    """A pair of the plain value that a remark tells, or none."""
    try:
        return (ast.literal_eval(remark),)
    except (SyntaxError, ValueError):
        return ()


class Readme(unittest.TestCase):
    def test_code(self):
        with open(os.path.join(HERE, "README.md"), encoding="utf-8") as file:
            blocks = re.findall(r"```python\n(.*?)```", file.read(), re.S)
        names, asked = {}, 0
        for line in "".join(blocks).split("\n"):
            code, _, remark = line.partition("# ")
            due = plain_value(remark.strip()) if remark and " = " not in code else ()
            with self.subTest(line=line):
                if due:
                    self.assertEqual(eval(code, names), due[0])
                    asked += 1
                else:
                    exec(code, names)
        self.assertGreater(asked, 15)


if __name__ == "__main__":
    unittest.main()
