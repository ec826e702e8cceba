"""How clients go on with another library: accepted, way_on and kind_of_change (points 55, 57 and 58)."""

import random
import unittest

from oldclients.anew import accepted, kind_of_change, unaccepted, way_on
from oldclients.clients import Client, Resolved
from oldclients.compiler import Code, lacking
from oldclients.declared import Body, Class, Field, Routine
from oldclients.errors import NoBody, NoClient
from oldclients.exposed import unlike
from oldclients.layouts import Layout
from oldclients.libraries import Library
from tests.chances import Chance, is_library, items, later_library, replaced, some_client, some_library
from tests.helpers import bare, base_library, doing, main, mine_resolved, opened, own, plain, raised

def later():
    """Return the later library of the document: Base has a further shown field behind n."""
    base = base_library().item("Base")
    return Library([replaced(base, fields=base.fields + (Field("k", "int1"),)), base_library().item("Leaf")])


def meddled(chance, library, resolved):
    """Return a library with a shown plain method that is called as a member of a client's class, or the same one."""
    rows = [(base, member.name) for item in resolved.client.classes for base, _ in item.bases if base in library
            for member in item.fields + item.methods]
    if not rows:
        return library
    base, name = chance.one(rows)
    classes = [replaced(item, methods=item.methods + (plain(name),)) if item.name == base else item
               for item in items(library)]
    return Library(classes, library.routines()) if is_library(classes, library.routines()) else library


class Accepted(unittest.TestCase):
    def check(self, wanted, client, old, new):
        """Check whether a client is accepted alike, and that it is by its own library and by those without changes."""
        resolved = Resolved(client, Library(list(old)))
        self.assertTrue(accepted(resolved, Library(list(old))))
        self.assertEqual(accepted(resolved, Library(list(new))), wanted)
        if wanted:
            other = Library(list(new))
            self.assertEqual(Code(resolved, other), Code(Resolved(client, other)))

    def test_the_example(self):
        resolved = mine_resolved()
        self.assertFalse(accepted(resolved, later()))
        self.assertEqual(raised(Resolved, resolved.client, later()), ("NoClient", 0, "names", -1))
        self.assertEqual(lacking(resolved, later()), [])
        self.assertTrue(accepted(resolved, base_library()))
        self.assertTrue(accepted(Resolved(Client([]), base_library()), later()))

    def test_a_need_that_is_lacking(self):
        client = main("x:A i:int4", ("get", "i", "x", "a"))
        self.check(False, client, [own("A", "", "a4")], [own("A", "", "b4")])
        self.check(False, client, [own("A", "", "a4")], [own("A", "", "a8")])
        self.check(False, client, [own("A", "", "a4")], [Class("A", (), (Field("a", "int4", 0, False),))])
        self.check(True, client, [own("A", "", "a4")], [own("A", "", "b4 a4", ["f"])])
        # the client is valid with the other library, too, but what it needs is elsewhere there
        self.check(False, main("x:B i:int4", ("get", "i", "x", "a")), [own("A"), own("B", "A", "a4")],
                   [own("A", "", "a4"), own("B", "A")])
        self.check(False, main("x:A y:B", ("set", "x", "y")), [own("A"), own("B", "A")], [own("A"), own("B")])

    def test_an_invalid_class(self):
        client = main("", classes=[own("u", "A", "k4")])
        self.check(False, client, [own("A")], [own("A", "", "k4")])
        self.check(False, client, [own("A")], [own("A", "", "", [plain("k")])])
        self.check(True, client, [own("A")], [Class("A", (), (Field("k", "int4", 0, False),))])
        two = main("", classes=[own("u", "A B")])
        self.check(False, two, [own("Z"), own("A"), own("B")], [own("Z"), own("A", "Z"), own("B", "Z")])
        self.check(True, two, [own("Z"), own("A"), own("B")], [own("Z"), own("A", "+Z"), own("B", "+Z")])
        s = own("S", "", "", ["f"])
        self.check(False, two, [s, own("A", "+S"), own("B", "+S", "", ["f"])],
                   [s, own("A", "+S", "", ["f"]), own("B", "+S", "", ["f"])])
        both = main("", classes=[own("u", "A B", "", ["f"])])
        self.check(True, both, [s, own("A", "+S"), own("B", "+S", "", ["f"])],
                   [s, own("A", "+S", "", ["f"]), own("B", "+S", "", ["f"])])
        self.check(False, main("", classes=[own("u", "A")]), [own("A")], [own("A", closed=True)])

    def test_an_invalid_body(self):
        client = main("x:u", ("new", "x", "u"), classes=[own("u", "A")])
        self.check(False, client, [own("A", lent=True)], [own("A", "", "", [bare("n")], lent=True)])
        self.check(False, client, [own("A", lent=True)], [own("A", "", "", [bare("n", shown=False)], lent=True)])
        self.check(True, client, [own("A", lent=True)], [own("A", "", "", ["n"], lent=True)])
        self.check(False, main("x:A", ("new", "x", "A")), [own("A")], [own("A", lent=True)])
        inside = doing("p", [("new", "x", "A")], [("x", "A")], kind="plain")
        self.check(False, main("", classes=[own("u", "", "", [inside])]), [own("A")], [own("A", lent=True)])
        self.check(False, main("x:u", ("cast", "x", "x"), classes=[own("u", "A")]), [own("A", "", "", ["f"])], [own("A")])

    def test_a_name_that_means_another_thing(self):
        f = own("A", "", "", ["f"]), own("B", "", "", ["f"])
        call = ("call", None, "x", "f", ())
        self.check(False, main("x:C", call), [*f, own("C", "A B", "", ["f"])], [*f, own("C", "B A", "", ["f"])])
        self.check(True, main("x:C"), [*f, own("C", "A B", "", ["f"])], [*f, own("C", "B A", "", ["f"])])
        inside = doing("p", [("call", None, "this", "f", ())], kind="plain")
        mine = own("u", "C", "", [inside])
        self.check(False, main("", classes=[mine]), [*f, own("C", "A B", "", ["f"])], [*f, own("C", "B A", "", ["f"])])
        # a method that was hidden where it was introduced first
        hidden = own("A", "", "", [opened("f", shown=False)])
        self.check(False, main("x:C", call), [hidden, f[1], own("C", "A B", "", ["f"])], [*f, own("C", "A B", "", ["f"])])
        nested = ("if", 1, (("while", 0, (call,)),), ())
        self.check(False, main("x:C", nested), [*f, own("C", "A B", "", ["f"])], [*f, own("C", "B A", "", ["f"])])

    def test_overrides_more_and_fewer(self):
        client = main("", classes=[own("u", "A", "", ["f"])])
        self.check(False, client, [own("A")], [own("A", "", "", ["f"])])
        self.check(True, client, [own("A")], [own("A", "", "", [opened("f", shown=False)])])
        self.check(False, client, [own("A", "", "", ["f"])], [own("A")])
        self.check(False, client, [own("A", "", "", ["f"])], [own("A", "", "", [opened("f", shown=False)])])
        self.check(False, client, [own("A", "", "", ["f"])], [own("A", "", "", [plain("f")])])
        # the need is there, but the class overrides it no more: what it had to do with it is behind an ancestor
        self.check(True, client, [own("Z"), own("A", "", "", ["f"])], [own("Z", "", "", ["g"]), own("A", "Z", "", ["f"])])
        with_two = main("", classes=[own("u", "A", "", ["f", "g"])])
        self.check(False, with_two, [own("A", "", "", ["f"])], [own("A", "", "", ["f", "g"])])

    def test_another_version_may_be_an_earlier_one(self):
        resolved = Resolved(Client([]), later())
        self.assertTrue(accepted(resolved, base_library()))

    def test_by_chance(self):
        counts = {True: 0, "lacks": 0, "invalid": 0, "means": 0}
        for seed in range(220):
            chance = Chance(random.Random(7000 + seed))
            old = some_library(chance, chance.one([2, 4, 6]))
            new = later_library(chance, old, chance.one([1, 1, 2, 3]))
            first = new
            for _ in range(3):
                resolved = some_client(chance, old)
                new = meddled(chance, first, resolved) if chance.often(0.3) else first
                found = accepted(resolved, new)
                self.assertIs(type(found), bool)
                try:
                    other = Resolved(resolved.client, new)
                except (NoClient, NoBody):
                    other = None
                is_lacking = bool(lacking(resolved, new))
                if found:
                    self.assertFalse(is_lacking)
                    self.assertEqual(Code(resolved, new), Code(other))
                    wheres = [script.where for script in resolved.scripts]
                    self.assertEqual([other.statements(where) for where in wheres],
                                     [resolved.statements(where) for where in wheres])
                    counts[True] += 1
                elif is_lacking:
                    counts["lacks"] += 1
                else:
                    counts["invalid" if other is None else "means"] += 1
        self.assertGreater(min(counts[key] for key in (True, "lacks", "invalid")), 10, counts)

    def test_by_name(self):
        self.assertFalse(accepted(library=later(), resolved=mine_resolved()))


class WayOn(unittest.TestCase):
    def test_the_example(self):
        resolved = mine_resolved()
        self.assertEqual(way_on(resolved, later()), "linked")
        for library in (base_library(), later()):
            self.assertEqual(dict((row[0], row) for row in Code(resolved, library).classes)["mine"][1], 16)
            self.assertEqual(Code(resolved, library).classes[0][5][0][1], 14)
        self.assertEqual(way_on(resolved, base_library()), "both")

    def test_anew_and_neither(self):
        row = (Field("a", "int4"), Field("b", "int4"))
        old, new = Library([Class("A", (), row)]), Library([Class("A", (), row[::-1])])
        getting = Resolved(main("x:A", ("put", "x", "a", 1)), old)
        self.assertEqual(way_on(getting, new), "anew")
        self.assertEqual(way_on(getting, Library([own("A", "", "b4")])), "neither")
        self.assertEqual(way_on(Resolved(main("x:A"), old), new), "both")
        # accepted would be wrong, and the code is another one
        mine = Resolved(main("x:A", ("put", "x", "a", 1), classes=[own("u", "A", "k1")]), old)
        self.assertEqual(way_on(mine, Library([own("A", "", "b4 a4 k1")])), "neither")
        self.assertEqual(way_on(mine, Library([own("A", "", "b4 a4")])), "anew")
        shut = Library([Class("A", (), row + (Field("k", "int1"),), (), True)])
        self.assertEqual(way_on(mine, shut), "neither")

    def test_by_chance(self):
        counts = {"both": 0, "linked": 0, "anew": 0, "neither": 0}
        for seed in range(250):
            chance = Chance(random.Random(8000 + seed))
            old = some_library(chance, chance.one([2, 4]))
            new = later_library(chance, old, chance.one([1, 1, 2]))
            first = new
            for _ in range(3):
                resolved = some_client(chance, old)
                new = meddled(chance, first, resolved) if chance.often(0.3) else first
                same = not lacking(resolved, new) and Code(resolved, new) == Code(resolved)
                wanted = {(1, 1): "both", (1, 0): "linked", (0, 1): "anew", (0, 0): "neither"}[
                    same, accepted(resolved, new)]
                self.assertEqual(way_on(resolved, new), wanted)
                counts[wanted] += 1
        self.assertGreater(min(counts.values()), 8, counts)

    def test_by_name(self):
        self.assertEqual(way_on(library=later(), resolved=mine_resolved()), "linked")


class KindOfChange(unittest.TestCase):
    def test_the_example(self):
        row = (Field("x", "int1"), Field("y", "int4"))
        old = Library([Class("A", fields=row)])
        hole = Library([Class("A", fields=(row[0], Field("h", "int2", 0, False), row[1]))])
        self.assertEqual(kind_of_change(old, hole), "both")
        self.assertEqual(kind_of_change(old, Library([Class("A", fields=row[::-1])])), "anew")
        self.assertEqual(kind_of_change(old, Library([Class("A", fields=row[:1])])), "neither")
        self.assertEqual(kind_of_change(old, old), "both")

    def test_the_fact(self):
        a = Field("a", "int4")
        one, two = Field("h", "int1", 0, False), Field("k", "int4", 0, False)
        rows = [Library([Class("A", (), (a, *hidden))]) for hidden in ((one, two), (two, one))]
        self.assertEqual([Layout(library).near_size("A") for library in rows], [12, 9])
        self.assertEqual(kind_of_change(rows[0], rows[1]), "anew")
        same = [Library([Class("A", (), (a, *hidden))]) for hidden in ((two, one), (one, two))]
        self.assertEqual(kind_of_change(same[0], same[0]), "both")
        with_p = Library([own("A", "", "a4", [plain("p")])])
        self.assertEqual(kind_of_change(Library([own("A", "", "a4")]), with_p), "linked")
        shut = Library([own("A", "", "a4", closed=True)])
        self.assertEqual(kind_of_change(shut, Library([own("A", "", "a4", [plain("p")], closed=True)])), "both")
        self.assertEqual(kind_of_change(with_p, Library([own("A", "", "a4")])), "neither")

    def test_routines(self):
        one, two = Routine("r", (), None, Body()), Routine("s", (), None, Body())
        self.assertEqual(kind_of_change(Library([], [one]), Library([], [two, one])), "both")
        self.assertEqual(kind_of_change(Library([], [one, two]), Library([], [two])), "neither")

    def test_by_chance(self):
        counts = {"both": 0, "linked": 0, "anew": 0, "neither": 0}
        for seed in range(200):
            chance = Chance(random.Random(8500 + seed))
            old = some_library(chance, chance.one([1, 2, 4]))
            new = later_library(chance, old, 1)
            word = kind_of_change(old, new)
            wanted = {(1, 1): "both", (1, 0): "linked", (0, 1): "anew", (0, 0): "neither"}[
                unlike(old, new) is None, unaccepted(old, new) is None]
            self.assertEqual(word, wanted)
            counts[word] += 1
            self.assertEqual(kind_of_change(old, old), "both")
            # what all clients can do, each of them can
            resolved = some_client(chance, old)
            if word in ("both", "linked"):
                self.assertIn(way_on(resolved, new), ("both", "linked"))
        self.assertGreater(min(counts.values()), 5, counts)

    def test_by_name_and_without_changes(self):
        old, new = base_library(), later()
        self.assertEqual(kind_of_change(new=new, old=old), kind_of_change(old, new))
        self.assertEqual((old, new), (base_library(), later()))


if __name__ == "__main__":
    unittest.main()
