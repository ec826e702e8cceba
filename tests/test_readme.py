"""The examples of README.md: what stands behind a # in a line is what the line gives."""

import ast
import pathlib
import re
import unittest

from oldclients.errors import NoRoom

README = pathlib.Path(__file__).parent.parent / "README.md"


class Readme(unittest.TestCase):
    def test_each_line_with_a_value(self):
        names, seen = {}, 0
        blocks = re.findall("```python\n(.*?)```", README.read_text(encoding="utf-8"), re.DOTALL)
        for line in "".join(blocks).splitlines():
            code, _, told = line.partition("#")
            try:
                wanted = ast.literal_eval(told.split(": ")[0].strip() if told.count(": ") == 1 else told.strip())
            except (SyntaxError, ValueError):
                if "raises NoRoom" in told:
                    with self.assertRaises(NoRoom):
                        eval(code.strip(), names)
                elif not code.startswith("print"):
                    exec(code, names)
                continue
            self.assertEqual(eval(code.strip(), names), wanted, line)
            seen += 1
        self.assertGreater(seen, 30)


if __name__ == "__main__":
    unittest.main()
