"""What clients need of a library, and what a library lacks (point 30)."""

import unittest

from oldclients.clients import Client, Resolved
from oldclients.compiler import Code, lacking, needs
from oldclients.declared import Body, Class, Field, Method, Routine
from oldclients.libraries import Library
from tests.helpers import bare, base_library, doing, main, mine_resolved, opened, own, plain, raised

ROUTINES = [Routine("r", (("x", "A"), ("i", "int1")), "B", Body()), Routine("none", (), None, Body())]


def classes():
    """Return the classes of a library with members of each kind."""
    a = Class("A", (), (Field("a", "int4"), Field("q", "A"), Field("w", "B")),
              (opened("f", params=(("p", "int2"), ("r", "A")), result="int8"), opened("g", result="B"), plain("p"),
               plain("pr", (("x", "A"),), "B"), opened("h", shown=False)))
    return [a, own("B", "A", "b2"), own("C", "B", "c2", ["g2"]), own("F", "", "z1"), own("S", "+A", "s1", ["n"]),
            own("T", "+A", "t1", ["n"])]


def library():
    """Return the library of these classes and routines."""
    return Library(classes(), ROUTINES)


def needed(variables, *steps, classes=()):
    """Return the needs of a client, without those of the forms of main variables named here as x:A."""
    client = Resolved(main(variables, *steps, classes=classes), library())
    forms = [("class", pair.split(":")[1]) for pair in variables.split()]
    return [need for need in needs(client) if need not in forms]


class Needs(unittest.TestCase):
    def test_the_document(self):
        wanted = [("class", "Base"), ("derive", "Leaf"), ("open", "Base", "f", (), "int4"), ("reach", "Leaf", "Base")]
        self.assertEqual(needs(mine_resolved()), wanted)
        self.assertEqual(needs(resolved=mine_resolved()), wanted)
        self.assertEqual(needs(Resolved(Client([]), library())), [])

    def test_forms(self):
        body = Body((("v", "C"), ("i", "int1")))
        item = Class("u", (), (Field("x", "A"), Field("y", "u"), Field("i", "int1")),
                     (Method("m", "plain", (("p", "B"), ("q", "u")), "S", body), bare("n", (("o", "F"),), "u")))
        client = Resolved(Client([item], (("t", "T"), ("y", "u"), ("j", "int8"))), library())
        self.assertEqual(needs(client), [("class", name) for name in "ABCFST"])

    def test_derive_and_overridden(self):
        f = opened("f", params=(("z", "int2"), ("y", "A")), result="int8")
        first = own("u", "B +S", "", [f, opened("h")])
        with self.subTest("B and S have A as a plain and a shared base"):
            self.assertIsNotNone(raised(Resolved, Client([first]), library()))
        first = own("u", "C", "", [f, opened("h")])
        second = own("v", "u F", "", [f, opened("g2")])
        self.assertEqual(needed("", classes=[first]), [
            ("class", "A"), ("derive", "C"), ("open", "A", "f", ("int2", "A"), "int8")])
        self.assertEqual(needed("", classes=[own("u", "C"), own("v", "u", "", [opened("g", result="B")])]), [
            ("class", "B"), ("derive", "C"), ("open", "A", "g", (), "B")])
        self.assertEqual(needed("", classes=[first, second]), [
            ("class", "A"), ("derive", "C"), ("derive", "F"), ("open", "A", "f", ("int2", "A"), "int8"),
            ("open", "C", "g2", (), "")])

    def test_overridden_methods_of_several_introducers(self):
        lib = Library([own("P", "", "", ["m"]), own("Q", "", "", ["m"]), own("R", "", "", [opened("m", shown=False)])])
        client = Resolved(Client([own("u", "P Q R", "", ["m"])]), lib)
        self.assertEqual(needs(client), [("derive", "P"), ("derive", "Q"), ("derive", "R"), ("open", "P", "m", (), ""),
                                         ("open", "Q", "m", (), "")])
        self.assertEqual(lacking(client, lib), [])

    def test_make(self):
        self.assertEqual(needed("x:A", ("new", "x", "A")), [("make", "A")])
        self.assertEqual(needed("x:A", ("new", "x", "C")), [("make", "C"), ("reach", "C", "A")])
        self.assertEqual(needed("x:A", ("new", "x", "u"), classes=[own("u", "C")]), [
            ("derive", "C"), ("reach", "B", "A"), ("reach", "C", "A")])
        self.assertEqual(needed("x:C", ("new", "x", "u"), classes=[own("u", "C")]), [("derive", "C")])

    def test_cast(self):
        self.assertEqual(needed("x:A y:B", ("cast", "y", "x")), [("cast", "A")])
        self.assertEqual(needed("x:A f:F", ("cast", "f", "x")), [("cast", "A")])
        self.assertEqual(needed("x:B y:A", ("cast", "y", "x")), [("cast", "B")])
        self.assertEqual(needed("x:B u:u", ("cast", "x", "u"), ("cast", "u", "x"), classes=[own("u", "B")])[:2],
                         [("cast", "B"), ("derive", "B")])
        client = Resolved(main("y:u", ("cast", "y", "y"), classes=[own("u", "B")]), library())
        self.assertEqual(needs(client), [("derive", "B")])

    def test_references_that_are_given(self):
        self.assertEqual(needed("x:A y:C", ("set", "x", "y")), [("reach", "C", "A")])
        self.assertEqual(needed("x:A y:A", ("set", "x", "y"), ("set", "x", None)), [])
        self.assertEqual(needed("x:A y:B", ("get", "x", "y", "w")), [
            ("field", "A", "w", "B"), ("reach", "B", "A")])
        self.assertEqual(needed("x:A y:A", ("get", "x", "y", "w")), [
            ("field", "A", "w", "B"), ("reach", "B", "A")])
        self.assertEqual(needed("x:A y:C", ("put", "x", "q", "y")), [
            ("field", "A", "q", "A"), ("reach", "C", "A")])
        self.assertEqual(needed("x:A", ("put", "x", "q", None), ("put", "x", "q", "x")), [("field", "A", "q", "A")])
        self.assertEqual(needed("x:A y:C", ("call", None, "x", "f", (1, "y"))), [
            ("open", "A", "f", ("int2", "A"), "int8"), ("reach", "C", "A")])
        self.assertEqual(needed("x:A", ("call", "x", "x", "g", ())), [
            ("open", "A", "g", (), "B"), ("reach", "B", "A")])
        self.assertEqual(needed("x:A", ("call", None, "x", "g", ())), [("open", "A", "g", (), "B")])
        self.assertEqual(needed("x:A y:B", ("call", "y", "x", "pr", ("y",))), [
            ("plain", "A", "pr", ("A",), "B"), ("reach", "B", "A")])
        self.assertEqual(needed("x:C y:A", ("do", "y", "r", ("x", 1))), [
            ("reach", "B", "A"), ("reach", "C", "A"), ("routine", "r", ("A", "int1"), "B")])
        self.assertEqual(needed("", ("do", None, "none", ())), [("routine", "none", (), "")])
        method = Method("m", "plain", (("x", "C"),), "A", Body((), (("return", "x"),)))
        self.assertEqual(needed("", classes=[own("u", "", "", [method])]), [
            ("class", "A"), ("class", "C"), ("reach", "C", "A")])

    def test_what_a_field_gives_goes_to_the_variable(self):
        lib = Library([own("A"), own("B", "A"), Class("H", (), (Field("w", "B"),))])
        resolved = Resolved(main("x:A y:H", ("get", "x", "y", "w")), lib)
        self.assertEqual(needs(resolved)[2:], [("field", "H", "w", "B"), ("reach", "B", "A")])

    def test_members_of_ancestors(self):
        self.assertEqual(needed("x:C i:int1", ("get", "i", "x", "a")), [
            ("field", "A", "a", "int4"), ("reach", "C", "A")])
        self.assertEqual(needed("x:C i:int1", ("get", "i", "x", "b")), [
            ("field", "B", "b", "int2"), ("reach", "C", "B")])
        self.assertEqual(needed("x:C", ("put", "x", "c", 1)), [("field", "C", "c", "int2")])
        self.assertEqual(needed("x:S", ("call", None, "x", "p", ())),
                         [("plain", "A", "p", (), ""), ("reach", "S", "A")])
        self.assertEqual(needed("x:S", ("call", None, "x", "n", ())), [("open", "S", "n", (), "")])
        self.assertEqual(needed("x:T", ("call", None, "x", "g", ())),
                         [("open", "A", "g", (), "B"), ("reach", "T", "A")])

    def test_of_client_classes(self):
        u, v = own("u", "C F", "x1", ["k"]), own("v", "u")
        derive = [("derive", "C"), ("derive", "F")]
        self.assertEqual(needed("y:v i:int1", ("get", "i", "y", "a"), classes=[u, v]), [
            *derive, ("field", "A", "a", "int4"), ("reach", "B", "A"), ("reach", "C", "A")])
        self.assertEqual(needed("y:v i:int1", ("get", "i", "y", "b"), classes=[u, v]), [
            *derive, ("field", "B", "b", "int2"), ("reach", "C", "B")])
        self.assertEqual(needed("y:v", ("put", "y", "c", 1), ("put", "y", "z", 1), classes=[u, v]), [
            *derive, ("field", "C", "c", "int2"), ("field", "F", "z", "int1")])
        self.assertEqual(needed("y:v x:u", ("set", "x", "y"), ("put", "y", "x", 1), ("call", None, "y", "k", ()),
                                classes=[u, v]), derive)
        diamond = own("u", "+S +T", "", ["n"])
        self.assertEqual(needed("y:u x:A", ("set", "x", "y"), classes=[diamond]), [
            ("derive", "S"), ("derive", "T"), ("open", "S", "n", (), ""), ("open", "T", "n", (), ""),
            ("reach", "S", "A"), ("reach", "T", "A")])

    def test_statements_of_methods_and_inside_others(self):
        step = ("get", "i", "this", "a")
        item = own("u", "B", "", [doing("m", [("while", "i", (("if", 1, (), (step,)),))], (("i", "int1"),))])
        self.assertEqual(needed("", classes=[item]), [
            ("derive", "B"), ("field", "A", "a", "int4"), ("reach", "B", "A")])
        self.assertEqual(needed("x:A", ("if", "x", (("new", "x", "A"),), (("call", None, "x", "p", ()),))), [
            ("make", "A"), ("plain", "A", "p", (), "")])

    def test_each_once_and_ascending(self):
        steps = [("new", "x", "B"), ("get", "i", "x", "a"), ("new", "x", "B"), ("get", "i", "x", "a"),
                 ("cast", "x", "x")]
        found = needs(Resolved(main("x:A i:int4 z:A", *steps), library()))
        self.assertEqual(found, [("cast", "A"), ("class", "A"), ("field", "A", "a", "int4"), ("make", "B"),
                                 ("reach", "B", "A")])
        found.append("more")
        client = Resolved(main("x:A"), library())
        needs(client).append("more")
        self.assertEqual(needs(client), [("class", "A")])


def changed(name, **values):
    """Return the library with another class of a name: its arguments are changed, or it is left out (None)."""
    rows = []
    for item in classes():
        if item.name == name:
            parts = {key: getattr(item, key) for key in ("name", "bases", "fields", "methods", "closed", "lent")}
            item = Class(**{**parts, **values})
        rows.append(item)
    return Library(rows, ROUTINES)


def lacks(later, variables, *steps, classes=()):
    """Return what a later library lacks for a client of the library; Code raises Lacks with the first of it."""
    client = Resolved(main(variables, *steps, classes=classes), library())
    found = lacking(client, later)
    error = raised(Code, client, later)
    assert error == (("Lacks", found[0]) if found else None), error
    return found


class Lacking(unittest.TestCase):
    def test_its_own_library_lacks_nothing(self):
        self.assertEqual(lacks(library(), "x:A i:int4", ("new", "x", "C"), ("get", "i", "x", "a"),
                               classes=[own("u", "C F", "", [opened("g", result="B")])]), [])
        self.assertEqual(lacking(resolved=mine_resolved(), library=base_library()), [])

    def test_classes(self):
        empty = Library([])
        self.assertEqual(lacks(empty, "x:A y:B u:u", classes=[own("u", "C")]), [
            ("class", "A"), ("class", "B"), ("derive", "C")])
        self.assertEqual(lacks(empty, "x:A y:B i:int1", ("set", "x", "y"), ("new", "y", "B"), ("get", "i", "x", "a"),
                               ("call", None, "x", "p", ()), ("call", None, "x", "g", ()), ("do", None, "none", ()),
                               ("cast", "y", "x")), [
            ("cast", "A"), ("class", "A"), ("class", "B"), ("field", "A", "a", "int4"), ("make", "B"),
            ("open", "A", "g", (), "B"), ("plain", "A", "p", (), ""), ("reach", "B", "A"), ("routine", "none", (), "")])

    def test_marks(self):
        derived = [own("u", "F")]
        self.assertEqual(lacks(changed("F", closed=True), "x:F", ("new", "x", "F"), classes=derived), [("derive", "F")])
        self.assertEqual(lacks(changed("F", lent=True), "x:F", ("new", "x", "F"), classes=derived), [("make", "F")])

    def test_bare_classes(self):
        later = changed("F", methods=(bare("m", shown=False),))
        self.assertEqual(lacks(later, "x:F", ("new", "x", "F")), [("make", "F")])
        self.assertEqual(lacks(later, "x:F", ("new", "x", "u"), classes=[own("u", "F")]), [])

    def test_fields(self):
        step = ("get", "i", "x", "z")
        need = ("field", "F", "z", "int1")
        for fields in ((), (Field("z", "int2"),), (Field("z", "int1", 0, False),), (Field("z", "A"),)):
            self.assertEqual(lacks(changed("F", fields=fields), "x:F i:int8", step), [need])
        self.assertEqual(lacks(changed("F", fields=(), methods=(opened("z"),)), "x:F i:int8", step), [need])
        self.assertEqual(lacks(changed("F", fields=(Field("k", "int8"), Field("z", "int1", 5))), "x:F i:int8", step),
                         [])

    def test_a_field_that_went_to_an_ancestor(self):
        rows = [own("Z", "", "z1")] + [item if item.name != "F" else own("F", "Z") for item in classes()]
        self.assertEqual(lacks(Library(rows, ROUTINES), "x:F i:int8", ("get", "i", "x", "z")),
                         [("field", "F", "z", "int1")])

    def test_methods(self):
        old = Library([own("P", "", "", [opened("m"), plain("n", (("x", "int1"),), "P")])])
        client = Resolved(main("x:P", ("call", None, "x", "m", ()), ("call", None, "x", "n", (1,))), old)
        m, n = ("open", "P", "m", (), ""), ("plain", "P", "n", ("int1",), "P")
        good_n = plain("n", (("y", "int1"),), "P")
        for methods, wanted in [
                ([opened("m"), good_n], []), ([good_n, opened("m")], []), ([bare("m"), good_n], []), ([good_n], [m]),
                ([opened("m")], [n]), ([opened("m", shown=False), good_n], [m]), ([plain("m"), good_n], [m]),
                ([opened("m", result="int1"), good_n], [m]), ([opened("m", params=(("x", "P"),)), good_n], [m]),
                ([opened("m"), plain("n", (("x", "int1"),))], [n]),
                ([opened("m"), plain("n", (("x", "int2"),), "P")], [n]),
                ([opened("m"), plain("n", (), "P")], [n]),
                ([opened("m"), opened("n", params=(("x", "int1"),), result="P")], [n]),
                ([opened("m"), plain("n", (("x", "int1"),), "P", False)], [n]), ([], [m, n])]:
            self.assertEqual(lacking(client, Library([own("P", "", "", methods)])), wanted)

    def test_a_method_that_an_ancestor_introduces_now(self):
        old = Library([own("Z"), own("P", "Z", "", [opened("m")])])
        new = Library([own("Z", "", "", [opened("m")]), own("P", "Z", "", [opened("m")])])
        client = Resolved(main("x:P", ("call", None, "x", "m", ())), old)
        self.assertEqual(lacking(client, new), [("open", "P", "m", (), "")])
        overrider = Resolved(Client([own("u", "P", "", ["m"])]), old)
        self.assertEqual(lacking(overrider, new), [("open", "P", "m", (), "")])

    def test_the_mark_where_a_method_is_introduced_counts(self):
        def lib(first, second):
            return Library([own("Z", "", "", [opened("m", shown=first)]),
                            own("P", "Z", "", [opened("m", shown=second)])])
        client = Resolved(main("x:P", ("call", None, "x", "m", ())), lib(True, True))
        self.assertEqual(lacking(client, lib(True, False)), [])
        self.assertEqual(lacking(client, lib(False, True)), [("open", "Z", "m", (), "")])

    def test_routines(self):
        client = Resolved(main("x:A", ("do", None, "r", ("x", 1))), library())
        need = ("routine", "r", ("A", "int1"), "B")
        for routines in ([], [Routine("r", (("x", "A"),), "B", Body())],
                         [Routine("r", ROUTINES[0].params, "A", Body())],
                         [Routine("r", ROUTINES[0].params, None, Body())],
                         [Routine("r", (("x", "A"), ("i", "int2")), "B", Body())]):
            self.assertEqual(lacking(client, Library(classes(), routines)), [need])
        renamed = Routine("r", (("y", "A"), ("k", "int1")), "B", Body())
        self.assertEqual(lacking(client, Library(classes(), [renamed])), [])

    def test_ancestors(self):
        rows = [item if item.name != "C" else own("C", "", "c2", ["g2"]) for item in classes()]
        later = Library(rows, ROUTINES)
        self.assertEqual(lacks(later, "x:A y:C", ("set", "x", "y")), [("reach", "C", "A")])
        self.assertEqual(lacks(later, "x:A y:u", ("set", "x", "y"), classes=[own("u", "C")]), [("reach", "C", "A")])
        self.assertEqual(lacks(later, "x:C y:u", ("set", "x", "y"), classes=[own("u", "C")]), [])

    def test_casts(self):
        old = Library([own("P", "", "", ["m"]), own("Q")])
        client = Resolved(main("x:P y:Q", ("cast", "y", "x")), old)
        self.assertEqual(lacking(client, Library([own("P"), own("Q")])), [("cast", "P")])
        self.assertEqual(lacking(client, Library([own("Q"), own("P", "+Q")])), [])

    def test_what_is_new_is_not_lacked(self):
        later = Library(classes() + [own("New", "C")], ROUTINES + [Routine("more", (), None, Body())])
        self.assertEqual(lacks(later, "x:A", ("new", "x", "C")), [])

    def test_code_raises_for_its_library_by_name(self):
        client = mine_resolved()
        self.assertEqual(raised(Code, resolved=client, library=Library([])), ("Lacks", ("class", "Base")))


if __name__ == "__main__":
    unittest.main()
