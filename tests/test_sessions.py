"""The sessions of the document, word for word; tests/sessions.txt has those for which the modules are there."""

import importlib
import inspect
import pathlib
import re
import unittest

from oldclients import errors

HERE = pathlib.Path(__file__).parent
DOCUMENT = HERE.parent.parent / "shared" / "DOC.md"
LEAST = 34


def sessions(text):
    """Return the sessions of a text, each as a list of its lines."""
    blocks = re.findall("^```\n(>>> .*?)^```$", text, re.MULTILINE | re.DOTALL)
    return [block.splitlines() for block in blocks]


def can_run(lines):
    """Return whether all that a session imports is there."""
    for line in lines:
        found = re.fullmatch(r">>> from (oldclients\.\w+) import (.*)", line)
        if found:
            try:
                module = importlib.import_module(found[1])
            except ModuleNotFoundError:
                return False
            if not all(hasattr(module, name.strip()) for name in found[2].split(",")):
                return False
    return True


def run(lines):
    """Return what a session shows in its last line, and what it must be: a text, or an exception's name and fields."""
    names = {}
    commands = [line.removeprefix(">>> ") for line in lines if line.startswith(">>> ")]
    last = lines[-1]
    for command in commands[:-1]:
        exec(command, names)
    if not last.startswith("raises "):
        return repr(eval(commands[-1], names)), last
    kind, words = re.fullmatch(r"raises (\w+)\((.*)\)", last).groups()
    fields = eval(f"fields({words})", {"fields": inspect.signature(getattr(errors, kind)).bind})
    try:
        shown = repr(eval(commands[-1], names))
    except errors.OldError as error:
        shown = type(error).__name__, {name: getattr(error, name) for name in fields.arguments}
    return shown, (kind, fields.arguments)


class Sessions(unittest.TestCase):
    def test_each_session(self):
        rows = sessions((HERE / "sessions.txt").read_text())
        self.assertGreaterEqual(len(rows), LEAST)
        for lines in rows:
            with self.subTest(lines=lines):
                shown, wanted = run(lines)
                self.assertEqual(shown, wanted)

    @unittest.skipUnless(DOCUMENT.exists(), "the document is not beside the project")
    def test_none_of_the_document_is_left_out(self):
        here = sessions((HERE / "sessions.txt").read_text())
        for lines in sessions(DOCUMENT.read_text()):
            if can_run(lines):
                self.assertIn(lines, here)


if __name__ == "__main__":
    unittest.main()
