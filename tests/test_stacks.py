"""Libraries on top of others (points 65 to 68)."""

import random
import unittest

from oldclients.clients import Client, Resolved
from oldclients.compiler import Code, lacking
from oldclients.declared import Body, Class, Field, Method, Routine
from oldclients.errors import NoBody, NoLibrary
from oldclients.libraries import Library
from oldclients.machine import Build, run_code
from oldclients.stacks import Part, Upper, best_pair, joined, linked, serving, together
from tests.chances import Chance, empty, is_library, items, later_library, repaired, some_client, some_library
from tests.helpers import Bag, doing, main, oddities, opened, own, plain, raised, routine, strangers


def low(fields="a4", methods=("f",), **marks):
    """Return a lower library with the class Low and a routine."""
    return Library([own("Low", "", fields, list(methods), **marks)], [routine("r", (("p", "Low"),))])


def getting():
    """Return a plain method that uses what Low has."""
    return Method("p", "plain", (), "int4", Body((("i", "int4"),), (
        ("get", "i", "this", "a"), ("call", None, "this", "f", ()), ("do", None, "r", ("this",)), ("return", "i"))))


def making():
    """Return a routine that makes an Up."""
    return Routine("make", (), "Low", Body((("x", "Up"),), (("new", "x", "Up"), ("return", "x"))))


def upper():
    """Return an upper library with a class behind Low and a routine."""
    return Upper([own("Up", "Low", "u2", [getting()])], [making()])


class Uppers(unittest.TestCase):
    def test_equality(self):
        rows = [own("Up")], [routine("r")]
        self.assertEqual(Upper(*rows), Upper(tuple(rows[0]), tuple(rows[1])))
        self.assertEqual(Upper([]), Upper((), []))
        self.assertEqual(Upper(routines=rows[1], classes=rows[0]), Upper(*rows))
        for other in (Upper([]), Upper(rows[0]), Upper([], rows[1]), Upper([own("Un")], rows[1]),
                      Upper(rows[0] * 2, rows[1]), Upper(rows[0], rows[1] * 2)):
            self.assertNotEqual(Upper(*rows), other)
        for other in [x for x in strangers() if x is not NotImplemented] + [rows, 1, Bag(classes=(), routines=())]:
            self.assertFalse(Upper([]) == other)
            self.assertTrue(Upper([]) != other)

    def test_later_changes_have_no_effect(self):
        classes, routines = [own("Up")], [routine("q")]
        one = Upper(classes, routines)
        classes.append(own("Un"))
        routines.clear()
        self.assertEqual(one, Upper([own("Up")], [routine("q")]))
        self.assertEqual(joined(low(), one).names(), ["Low", "Up"])


class Joined(unittest.TestCase):
    def test_rows_one_behind_the_other(self):
        found = joined(low(), upper())
        self.assertEqual(found, Library(items(low()) + [own("Up", "Low", "u2", [getting()])],
                                        low().routines() + [making()]))
        self.assertEqual(found.names(), ["Low", "Up"])
        self.assertEqual([one.name for one in found.routines()], ["r", "make"])
        self.assertEqual(joined(upper=Upper([]), lower=low()), low())
        self.assertEqual(joined(Library([]), Upper([own("A")])), Library([own("A")]))

    def wrong(self, one, lower=None):
        return raised(joined, low() if lower is None else lower, one)

    def test_numbers_count_through_both(self):
        self.assertEqual(self.wrong(Upper([own("Up"), own("Low")])), ("NoLibrary", 2, "name", -1))
        self.assertEqual(self.wrong(Upper([own("Up", "No")])), ("NoLibrary", 1, "bases", 0))
        self.assertEqual(self.wrong(Upper([own("Up", "Low", "a1")])), ("NoLibrary", 1, "names", -1))
        self.assertEqual(self.wrong(Upper([None])), ("NoLibrary", 1, "class", -1))
        self.assertEqual(self.wrong(Upper([own("Up"), own("V", closed=1)])), ("NoLibrary", 2, "marks", -1))
        self.assertEqual(self.wrong(Upper([], [routine("q"), routine("r")])), ("NoLibrary", 2, "routine", 0))
        self.assertEqual(self.wrong(Upper([], [routine("q", (("x", "Q"),))])), ("NoLibrary", 1, "routine", 1))
        self.assertEqual(self.wrong(Upper([], [None])), ("NoLibrary", 1, "routine", -1))
        self.assertEqual(self.wrong(Upper([], [Routine("q", (), "Q", Body())])), ("NoLibrary", 1, "routine", 2))
        self.assertEqual(self.wrong(Upper([], (Routine("q"),))), ("NoLibrary", 1, "routine", 3))

    def test_too_many_together(self):
        rows = [own(f"A{at}") for at in range(20)]
        self.assertEqual(len(joined(Library(rows[:1]), Upper(rows[1:])).names()), 20)
        self.assertEqual(self.wrong(Upper(rows)), ("NoLibrary", -1, "classes", -1))
        many = [routine(f"q{at}") for at in range(20)]
        self.assertEqual(len(joined(low(), Upper([], many[1:])).routines()), 20)
        self.assertEqual(self.wrong(Upper([], many)), ("NoLibrary", -1, "routines", -1))
        self.assertEqual(self.wrong(Upper(rows, many)), ("NoLibrary", -1, "classes", -1))

    def test_no_rows(self):
        for value in strangers() + oddities():
            if not isinstance(value, list):
                self.assertEqual(self.wrong(Upper(value)), ("NoLibrary", -1, "classes", -1))
                self.assertEqual(self.wrong(Upper([], value)), ("NoLibrary", -1, "routines", -1))


class Parts(unittest.TestCase):
    def test_attributes_and_equality(self):
        part = Part(upper(), low())
        self.assertEqual((part.upper, part.lower), (upper(), low()))
        self.assertEqual(part, Part(lower=low(), upper=upper()))
        self.assertNotEqual(part, Part(upper(), low("a4 b4")))
        self.assertNotEqual(part, Part(Upper([]), low()))
        for other in [x for x in strangers() if x is not NotImplemented] + [upper(), low(), Bag(upper=1, lower=1)]:
            self.assertFalse(part == other)
            self.assertTrue(part != other)

    def test_errors(self):
        self.assertEqual(raised(Part, Upper([own("Up", "No")]), low()), ("NoLibrary", 1, "bases", 0))
        bad = doing("p", [("say", None)], kind="plain")
        self.assertEqual(raised(Part, Upper([own("Up", "", "", [bad])]), low()), ("NoBody", ("Up", "p"), 0))
        worse = Library([own("Low", "", "", [doing("g", [("say", 1), ("say", None)])])])
        self.assertEqual(raised(Part, Upper([own("Up", "", "", [bad])]), worse), ("NoBody", ("Low", "g"), 1))
        self.assertEqual(raised(Part, Upper([own("Low"), own("Up", "", "", [bad])]), worse), ("NoLibrary", 1, "name", -1))
        gone = Upper([], [Routine("q", (), None, Body((), (("do", None, "r", (None,)),)))])
        self.assertIsNone(raised(Part, gone, low()))
        self.assertEqual(raised(Part, gone, Library([])), ("NoBody", ("", "q"), 0))

    def test_code_is_without_the_lower_library(self):
        part, build = Part(upper(), low()), Build(joined(low(), upper()))
        classes, bodies = part.code()
        self.assertEqual(sorted(classes), ["Up"])
        self.assertEqual(sorted(bodies), [("", "make"), ("Up", "p")])
        self.assertEqual(classes["Up"], build.classes["Up"])
        for where, body in bodies.items():
            self.assertEqual(body, build.bodies[where])
        self.assertIs(type(part.code()), tuple)
        classes.clear()
        bodies.clear()
        self.assertEqual((len(part.code()[0]), len(part.code()[1])), (1, 2))
        self.assertEqual(Part(Upper([]), low()).code(), ({}, {}))

    def test_agrees_if_all_that_is_built_in_is_the_same(self):
        part = Part(upper(), low())
        self.assertIs(part.agrees(low()), True)
        self.assertIs(part.agrees(other=low()), True)
        for other, wanted in ((low("a4", ("f", plain("q"))), True), (low("a4", ("f", opened("g", shown=False))), False),
                              (low("b4 a4"), False), (low("a4 b1"), False), (low("a4", ("g", "f")), False),
                              (low("a4", ("f",), closed=True, lent=True), True), (low("a4", (plain("f"),)), False),
                              (low("a8"), False), (low("b4"), False), (Library([]), False), (low("a4 u2"), False),
                              (Library([own("Up")]), False)):
            self.assertIs(part.agrees(other), wanted, [item.fields for item in items(other)])
        more = Library([own("Far"), *items(low())], low().routines())
        self.assertTrue(part.agrees(more))

    def test_a_new_override_between(self):
        a, over = own("A", "", "", ["f"]), own("B", "A", "", ["f"])
        part = Part(Upper([own("Up", "B")]), Library([a, own("B", "A")]))
        self.assertFalse(part.agrees(Library([a, over])))
        other = Part(Upper([own("Up", "A")]), Library([a, own("B", "A")]))
        self.assertTrue(other.agrees(Library([a, over])))
        calling = Routine("q", (("x", "B"),), None, Body((), (("call", None, "x", "f", ()),)))
        using = Part(Upper([], [calling]), Library([a, own("B", "A")]))
        self.assertTrue(using.agrees(Library([a, over])))
        self.assertFalse(using.agrees(Library([a, own("B")])))

    def test_false_where_an_error_would_be_raised(self):
        part = Part(upper(), low())
        self.assertIs(part.agrees(Library([own("Low", "", "a4", ["f", doing("g", [("say", None)])])],
                                          low().routines())), False)
        self.assertIs(part.agrees(Library([own("Low", "", "a4", ["f"])])), False)
        self.assertIs(part.agrees(Library([own("Low", "", "a4", ["f"]), own("Up")], low().routines())), False)


class Linked(unittest.TestCase):
    def test_both_together(self):
        part = Part(upper(), low())
        classes, bodies = linked(low(), part)
        build = Build(joined(low(), upper()))
        self.assertEqual((classes, bodies), (build.classes, build.bodies))
        self.assertEqual(linked(part=part, lower=low()), (classes, bodies))
        classes.clear()
        self.assertEqual(len(linked(low(), part)[0]), 2)

    def test_where_both_have_an_entry(self):
        part = Part(Upper([own("A", "", "x8")], [routine("q", (("i", "int1"),))]), Library([]))
        lower = Library([own("A", "", "y4"), own("B")], [routine("q", (("i", "int2"),)), routine("s")])
        classes, bodies = linked(lower, part)
        self.assertEqual(classes, {"A": part.code()[0]["A"], "B": Build(lower).classes["B"]})
        self.assertEqual(bodies, {("", "q"): part.code()[1][("", "q")], ("", "s"): Build(lower).bodies[("", "s")]})

    def test_an_invalid_lower_library(self):
        bad = Library([own("Low", "", "", [doing("g", [("say", None)])])])
        self.assertEqual(raised(linked, bad, Part(Upper([]), Library([]))), ("NoBody", ("Low", "g"), 0))

    def test_what_is_linked_runs(self):
        part, build = Part(upper(), low()), Build(joined(low(), upper()))
        build.classes, build.bodies = linked(low(), part)
        client = main("x:Low i:int4", ("do", "x", "make", ()), ("put", "x", "a", 4), ("get", "i", "x", "a"), ("say", "i"))
        resolved = Resolved(client, joined(low(), upper()))
        self.assertEqual(run_code(Code(resolved), build), ([4], "done"))

    def test_the_fact(self):
        counts = {True: 0, False: 0, None: 0}
        for seed in range(150):
            chance = Chance(random.Random(11000 + seed))
            lower, one = some_split(chance, chance.one([1, 2, 4]))
            part = Part(one, lower)
            self.assertTrue(part.agrees(lower))
            for _ in range(3):
                other = later_library(chance, lower, chance.one([1, 2])) if chance.often(0.8) else lower
                try:
                    build = Build(joined(other, one))
                except (NoLibrary, NoBody):
                    self.assertFalse(part.agrees(other))
                    counts[None] += 1
                    continue
                same = linked(other, part) == (build.classes, build.bodies)
                self.assertEqual(part.agrees(other), same)
                self.assertEqual(part.agrees(other), Part(one, other).code() == part.code())
                counts[same] += 1
        self.assertGreater(min(counts.values()), 10, counts)


def some_split(chance, many):
    """Return a lower library and an upper one, whose bodies use what the first one has."""
    lower = some_library(chance, many)
    classes, new = items(lower), []
    for number in range(chance.one([1, 2])):
        names = [row.name for row in classes + new]
        item = chance.item(f"U{number}", names, classes, chance.often(0.3), [1, 1, 2])
        if is_library([empty(row) for row in classes + new + [item]]):
            new.append(item)
    known = {item.name: item for item in classes + new}
    filled = [chance.filled(item, known, lower.routines()) for item in new]
    making = Routine("rd", (), "C0", chance.body({}, "C0", known, lower.routines(), 6))
    whole = repaired(classes + filled, lower.routines() + [making])
    return lower, Upper(items(whole)[len(classes):], whole.routines()[-1:])


class Pairs(unittest.TestCase):
    def setUp(self):
        self.lowers = [low(), low("a4 b1"), low("a4", ("f", plain("q")))]
        self.parts = [Part(upper(), low()), Part(upper(), low("a4 b1")), Part(Upper([]), low())]

    def test_together(self):
        wanted = [(0, 0), (0, 2), (1, 1), (1, 2), (2, 0), (2, 2)]
        self.assertEqual(together(self.lowers, self.parts), wanted)
        self.assertEqual(together(tuple(self.lowers), tuple(self.parts)), wanted)
        self.assertEqual(together(parts=self.parts, lowers=self.lowers), wanted)
        self.assertEqual((together([], self.parts), together(self.lowers, ())), ([], []))

    def test_serving(self):
        client = main("x:Up", ("new", "x", "Up"))
        resolved = Resolved(client, joined(low(), upper()))
        self.assertEqual(serving(self.lowers, self.parts, resolved), [(0, 0), (1, 1), (2, 0)])
        self.assertEqual(serving(tuple(self.lowers), tuple(self.parts), resolved), [(0, 0), (1, 1), (2, 0)])
        deriving = Resolved(main("", classes=[own("u", "Low", "k1")]), low())
        self.assertEqual(serving(self.lowers, self.parts, deriving), [(0, 0), (0, 2), (2, 0), (2, 2)])
        self.assertEqual(serving(parts=self.parts, resolved=deriving, lowers=self.lowers[1:]), [(1, 0), (1, 2)])
        self.assertEqual(serving(self.lowers, self.parts, Resolved(Client([]), Library([]))),
                         together(self.lowers, self.parts))
        self.assertEqual(serving(self.lowers, self.parts, Resolved(main("q:Q"), Library([own("Q")]))), [])

    def test_best_pair(self):
        up = Resolved(main("x:Up", ("new", "x", "Up")), joined(low(), upper()))
        wide = Resolved(main("", classes=[own("u", "Low", "k1")]), low("a4 b1"))
        slim = Resolved(main("", classes=[own("u", "Low", "k1")]), low())
        none = Resolved(main("q:Q"), Library([own("Q")]))
        plain_q = Resolved(main("x:Low", ("call", None, "x", "q", ())), low("a4", ("f", plain("q"))))
        self.assertEqual(best_pair(self.lowers, self.parts, [none, up, slim]), ((2, 0), [1, 2]))
        self.assertEqual(best_pair(self.lowers, self.parts, [wide]), ((1, 2), [0]))
        self.assertEqual(best_pair(self.lowers, self.parts, (up, wide)), ((1, 1), [0, 1]))
        self.assertEqual(best_pair(self.lowers, self.parts, [plain_q, wide, slim]), ((2, 2), [0, 2]))
        self.assertEqual(best_pair(self.lowers, self.parts, [none]), ((2, 2), []))
        self.assertEqual(best_pair(self.lowers, self.parts, []), ((2, 2), []))
        self.assertEqual(best_pair(clients=[up], lowers=self.lowers, parts=self.parts), ((2, 0), [0]))
        self.assertIsNone(best_pair([Library([])], self.parts[:2], [up]))
        self.assertIsNone(best_pair([], self.parts, []))

    def test_arguments_stay(self):
        lowers, parts = list(self.lowers), list(self.parts)
        best_pair(lowers, parts, [])
        together(lowers, parts).clear()
        self.assertEqual((lowers, parts), (self.lowers, self.parts))

    def test_by_chance(self):
        seen = {True: 0, False: 0}
        for seed in range(60):
            chance = Chance(random.Random(12000 + seed))
            lower, one = some_split(chance, chance.one([1, 2, 3]))
            lowers = [lower] + [later_library(chance, lower, 1) for _ in range(2)]
            parts = [Part(one, lower), Part(Upper([]), lower)]
            parts += [Part(one, other) for other in lowers[1:] if raised(Part, one, other) is None]
            pairs = [(i, j) for i in range(len(lowers)) for j in range(len(parts)) if parts[j].agrees(lowers[i])]
            self.assertEqual(together(lowers, parts), pairs)
            clients = [some_client(chance, joined(lower, one)) for _ in range(3)]
            right = {}
            for i, j in pairs:
                whole = joined(lowers[i], parts[j].upper)
                right[i, j] = [number for number, client in enumerate(clients)
                               if not lacking(client, whole) and Code(client, whole) == Code(client)]
                for number, client in enumerate(clients):
                    seen[number in right[i, j]] += 1
            for number, client in enumerate(clients):
                self.assertEqual(serving(lowers, parts, client), [pair for pair in pairs if number in right[pair]])
            wanted = max(pairs, key=lambda pair: (len(right[pair]), pair))
            self.assertEqual(best_pair(lowers, parts, clients), (wanted, right[wanted]))
        self.assertGreater(min(seen.values()), 40, seen)


class Examples(unittest.TestCase):
    def test_the_example(self):
        one = Library([Class("Low", (), (Field("n", "int4", 5),), (opened("f"),))])
        part = Part(Upper([own("Up", "Low", "u1")]), one)
        self.assertTrue(part.agrees(one))
        self.assertTrue(part.agrees(Library([Class("Low", (), (Field("other", "int4", 7),), (opened("f"),))])))
        self.assertFalse(part.agrees(Library([Class("Low", (), (Field("n", "int8", 5),), (opened("f"),))])))
        self.assertFalse(part.agrees(Library([own("Top", "", "", ["f"]), own("Low", "Top", "n4")])))


if __name__ == "__main__":
    unittest.main()
