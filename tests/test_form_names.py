"""Classes of clients that are called int1, int2, int4 or int8 (points 5, 26 and 28)."""

import unittest

from oldclients.clients import Client, Resolved
from oldclients.compiler import Code, needs
from oldclients.declared import Body, Class, Field, Method, Routine
from oldclients.libraries import Library
from oldclients.machine import Build, run_code
from oldclients.plain import plain_run
from oldclients.stepping import code_events, out_of_step, plain_events
from tests.helpers import bare, doing, own, raised

NAMES = ("int1", "int2", "int4", "int8")
ALIKE = NAMES + ("mine",)


def whole(name):
    """Return a whole number that is not called like the class."""
    return "int4" if name != "int4" else "int2"


def library():
    """Return a library with a class behind another one, a shared ancestor, and a routine that takes a reference."""
    low = Class("Low", (), (Field("a", "int4", 1),))
    base = Class("Base", (("Low", "plain"), ("Root", "shared")), (Field("n", "int4", 5), Field("o", "Low")))
    take = Routine("take", (("p", "Root"),), "int4", Body((("i", "int4"),), (("get", "i", "p", "r"), ("return", "i"))))
    root = own("Root", "", "r4", [doing("f", [("return", 3)], (), (), "int4")])
    return Library([root, low, base], [take])


def client(name, steps=(), variables="", methods=(), result=None, bodies=()):
    """Return a client with a class of this name, whose method h has these statements and a variable of each kind."""
    held = (("i", whole(name)), ("x", "Base"), ("y", "Low"), ("z", "Root"))
    h = Method("h", "plain", (), result, Body(held, tuple(steps)))
    item = Class(name, (("Base", "plain"),), (Field("k", "int2", 9),), (h, *methods))
    pairs = tuple(tuple(pair.split(":")) for pair in variables.split())
    return Client([item], pairs, tuple(bodies))


class Made(unittest.TestCase):
    def test_new_gives_a_reference(self):
        for name in ALIKE:
            for variable, needed in (("Base", []), ("Low", [("reach", "Base", "Low")]),
                                     ("Root", [("reach", "Base", "Root")])):
                resolved = Resolved(client(name, (), "x:" + variable, bodies=(("new", "x", name),)), library())
                rows = [need for need in needs(resolved) if need[0] == "reach"]
                self.assertEqual(rows, needed)
                row = Code(resolved).bodies[-1][1][2][0]
                self.assertEqual(row[0][:3], ("make", "1", name))
                self.assertEqual(row[1][:3], ("move", "x", "1"))
                self.assertEqual(run_code(Code(resolved), Build(library())), ([], "done"))

    def test_new_gives_no_number(self):
        for name in ALIKE:
            for form in NAMES:
                bodies = (("say", 1), ("new", "i", name))
                self.assertEqual(raised(Resolved, client(name, (), "i:" + form, bodies=bodies), library()),
                                 ("NoBody", ("", ""), 1))

    def test_a_form_is_the_number(self):
        for name in NAMES:
            item = Class(name, (("Base", "plain"),), (Field("k", name, 9),))
            resolved = Resolved(Client([item], (("i", name), ("x", "Base")), (("say", "i"), ("new", "x", name))), library())
            self.assertEqual(needs(resolved), [("class", "Base"), ("derive", "Base")])
            self.assertEqual(plain_run(resolved), ([0], "done"))
            self.assertEqual(raised(Resolved, Client([item], (("i", name),), (("get", "i", "i", "k"),)), library()),
                             ("NoBody", ("", ""), 0))

    def test_a_class_of_a_library_is_made_beside_it(self):
        for name in NAMES:
            steps = (("new", "b", name), ("cast", "y", "b"), ("get", "i", "y", "a"), ("say", "i"))
            resolved = Resolved(Client([own(name, "Base")], (("b", "Base"), ("y", "Low"), ("i", whole(name))), steps),
                                library())
            self.assertEqual(plain_run(resolved), ([1], "done"))
            self.assertEqual(run_code(Code(resolved), Build(library())), ([1], "done"))

    def test_bare_ones_cannot_be_made(self):
        for name in ALIKE:
            item = own(name, "", "", [bare("n")])
            self.assertEqual(raised(Resolved, Client([item], (("x", "Low"),), (("new", "x", name),)), library()),
                             ("NoBody", ("", ""), 0))


class This(unittest.TestCase):
    def test_it_is_a_reference(self):
        right = (("get", "i", "this", "n"), ("get", "i", "this", "k"), ("put", "this", "k", "i"), ("set", "x", "this"),
                 ("set", "y", "this"), ("set", "z", "this"), ("put", "this", "o", "this"), ("cast", "y", "this"),
                 ("call", None, "this", "h", ()), ("call", "i", "this", "f", ()), ("do", "i", "take", ("this",)),
                 ("if", "this", (), ()), ("while", "this", (("return", None),)))
        for name in ALIKE:
            for step in right:
                self.assertIsNone(raised(Resolved, client(name, (step,)), library()), (name, step))

    def test_it_is_no_number(self):
        wrong = (("say", "this"), ("add", "i", "this", 1), ("add", "i", 1, "this"), ("less", "i", "this", 0),
                 ("set", "i", "this"), ("put", "this", "k", "this"), ("set", "this", "x"), ("set", "this", 1),
                 ("add", "this", 1, 1), ("new", "this", "Base"), ("return", "this"))
        for name in ALIKE:
            for step in wrong:
                self.assertEqual(raised(Resolved, client(name, (("say", 1), step)), library()),
                                 ("NoBody", (name, "h"), 1), (name, step))

    def test_it_is_returned_as_an_ancestor(self):
        for name in ALIKE:
            for result, size in (("Base", 8), ("Low", 8), ("Root", 8)):
                resolved = Resolved(client(name, (("return", "this"),), result=result), library())
                params, width, rows = dict(Code(resolved).bodies)[(name, "h")]
                self.assertEqual((params, width, rows[0][0][:3], rows[0][1]),
                                 ((), size, ("move", "1", "this"), ("return", "1")))
            for result in NAMES:
                self.assertEqual(raised(Resolved, client(name, (("return", "this"),), result=result), library()),
                                 ("NoBody", (name, "h"), 0))

    def test_needs_and_moves(self):
        steps = (("set", "z", "this"), ("get", "i", "this", "n"), ("do", "i", "take", ("this",)))
        for name in ALIKE:
            resolved = Resolved(client(name, steps), library())
            self.assertEqual(needs(resolved), [
                ("class", "Base"), ("class", "Low"), ("class", "Root"), ("derive", "Base"),
                ("field", "Base", "n", "int4"), ("reach", "Base", "Root"), ("routine", "take", ("Root",), "int4")])
            rows = dict(Code(resolved).bodies)[(name, "h")][2]
            self.assertEqual(rows[0], (("move", "z", "this", ("way", -3, 0)),))
            self.assertEqual(rows[1][0], ("load", "1", "this", ("place", 12), 4))
            self.assertEqual(rows[2][0], ("move", "1", "this", ("way", -3, 0)))

    def test_runs_and_events(self):
        steps = (("if", "this", (("say", 1),), (("say", 2),)), ("set", "y", None), ("cast", "y", "this"),
                 ("get", "i", "y", "a"), ("say", "i"), ("do", "i", "take", ("this",)), ("say", "i"),
                 ("put", "this", "k", 4), ("get", "i", "this", "k"), ("say", "i"))
        over = doing("f", [("call", None, "this", "h", ())], (), (), "int4")
        for name in ALIKE:
            bodies = (("new", "x", name), ("call", None, "x", "f", ()))
            declared = client(name, tuple(step for step in steps if step[0] != "say"), "x:Root", [over], bodies=bodies)
            resolved = Resolved(declared, library())
            code, build = Code(resolved), Build(library())
            wanted = [("new", name), ("call", 0, name, "f"), ("call", 0, name, "h"), ("say", 1), ("cast", 0),
                      ("get", 0, "Low", "a"), ("do", "take"), ("get", 0, "Root", "r"), ("put", 0, name, "k"),
                      ("get", 0, name, "k"), ("end", "done")]
            self.assertEqual(plain_events(resolved), wanted)
            self.assertEqual(code_events(code, build), wanted)
            self.assertIsNone(out_of_step(resolved, code, build))
            loud = Resolved(client(name, steps, "x:Root", [over], bodies=bodies), library())
            self.assertEqual(plain_run(loud), ([1, 1, 0, 4], "done"))
            self.assertEqual(run_code(Code(loud), build), ([1, 1, 0, 4], "done"))
            self.assertIsNone(out_of_step(loud, Code(loud), build))

    def test_the_code_is_that_of_any_other_name(self):
        steps = (("set", "x", "this"), ("cast", "y", "this"), ("get", "i", "this", "k"), ("do", None, "take", ("this",)))
        for name in NAMES:
            for other in ("mine", "int9"):
                bodies = (("new", "x", other), ("new", "x", name))
                one = Code(Resolved(client(name, steps, "x:Low", bodies=bodies[1:]), library()))
                two = Code(Resolved(client(other, steps, "x:Low", bodies=bodies[:1]), library()))
                here = [tuple(row[:1] + row[3:] if row[0] == "make" else row for row in rows)
                        for rows in one.bodies[-1][1][2]]
                there = [tuple(row[:1] + row[3:] if row[0] == "make" else row for row in rows)
                         for rows in two.bodies[-1][1][2]]
                self.assertEqual(here, there)
                if whole(name) == whole(other):
                    self.assertEqual(one.bodies[0][1], two.bodies[0][1])


class OneBehindAnother(unittest.TestCase):
    def test_a_class_derives_from_one_that_is_called_like_a_form(self):
        for name in NAMES:
            heir = Class("heir", ((name, "plain"),), (), (Method("g", "plain", (), None, Body((("x", "Base"),), (
                ("set", "x", "this"), ("call", None, "this", "h", ())))),))
            first = client(name, (("put", "this", "k", 1),)).classes[0]
            steps = (("new", "x", "heir"), ("cast", "y", "x"), ("call", None, "y", "g", ()))
            resolved = Resolved(Client([first, heir], (("x", "Root"), ("y", "heir")), steps), library())
            self.assertEqual(plain_events(resolved)[-2], ("put", 0, name, "k"))
            self.assertIsNone(out_of_step(resolved, Code(resolved), Build(library())))


if __name__ == "__main__":
    unittest.main()
