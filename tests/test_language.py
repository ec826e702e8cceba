"""The form of the code: the rules of the language, as far as tests/language.py knows them."""

import pathlib
import unittest
import warnings

from tests.language import complaints

PACKAGE = pathlib.Path(__file__).parent.parent / "oldclients"

WRONG = {
    "L2": "from random import choice\n", "L3": "for x in (1, 2):\n    pass\n", "L4": "def f(x=[]):\n    return x\n",
    "L5": "class A:\n    def __getitem__(self, at):\n        return at\n", "L6": "def f():\n    global x\n    x = 1\n",
    "L7": "def f(x):\n    return x / 2\n", "L8": "def f(x):\n    return hash(x)\n",
    "L10": "def f(x):\n" + "    x = 1\n" * 40, "L14": "NAME = '\u00e9'\n", "L15": "def f(list):\n    return 1\n",
    "L16": "import math\n", "L17": "def f(type):\n    return 1\n",
    "L18": "class A:\n    def b(self):\n        self.b = 1\n", "L19": "def f(x):\n    raise x\n",
    "L20": "def f(x):\n    return x is 5\n",
    "L23": "def f(xs):\n    for x in xs:\n        xs.append(x)\n", "L24": "def f(x):\n    return [y for y in set(x)]\n",
    "L25": "def f(x):\n    return x.format(1)\n", "L26": "class A:\n    def __init__(self):\n        self.keys = 1\n",
    "L27": "def f(n):\n    return 2 ** n\n",
}


def package_files():
    """Return the texts of the files of the package, but that of __main__.py, which has rules of its own."""
    paths = [path for path in sorted(PACKAGE.rglob("*.py")) if path.name != "__main__.py"]
    return {path.relative_to(PACKAGE).as_posix(): path.read_text(encoding="utf-8") for path in paths}


class Language(unittest.TestCase):
    def test_the_package(self):
        self.assertEqual(complaints(package_files()), [])

    def test_the_folder_holds_nothing_else(self):
        names = [path.name for path in PACKAGE.rglob("*") if "__pycache__" not in path.parts and path.is_file()]
        self.assertIn("__init__.py", names)
        for name in names:
            self.assertRegex(name, "^[a-z0-9_]+[.]py$")

    def test_no_warnings(self):
        with warnings.catch_warnings():
            warnings.simplefilter("error")
            for name, text in package_files().items():
                compile(text, name, "exec")

    def test_the_check_sees_what_is_wrong(self):
        for rule, text in WRONG.items():
            found = complaints({"some.py": text})
            self.assertTrue(any(rule in row for row in found), (rule, found))

    def test_circles_are_seen(self):
        files = {"a.py": "from oldclients.b import y\nx = 1\n", "b.py": "from oldclients.a import x\ny = 1\n"}
        self.assertEqual(len([row for row in complaints(files) if "through others" in row]), 2)


if __name__ == "__main__":
    unittest.main()
