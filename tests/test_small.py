"""Small clients that another library does not accept alike: unaccepted (point 56)."""

import random
import unittest

from oldclients.anew import accepted, unaccepted
from oldclients.clients import Client, Resolved
from oldclients.declared import Body, Class, Field, Method, Routine
from oldclients.libraries import Library
from tests.chances import NUMBERS, Chance, is_library, items, later_library, replaced, some_library
from tests.helpers import bare, base_library, opened, own, plain
from tests.smallness import is_small, some_small_client


def hiding_library(chance, library, many):
    """Return a later version that lacks nothing: new hidden members and bases, overrides, marks that were there."""
    rows = items(library)
    for number in range(many):
        at = chance.random.randrange(len(rows))
        item, earlier = rows[at], [row.name for row in rows[:at]]
        word = chance.one(["field", "method", "bare", "over", "base", "order", "new", "kind"])
        new, fresh = item, None
        name = f"n{number}x"
        if word == "field":
            new = replaced(item, fields=item.fields + (Field(name, chance.one(NUMBERS), 0, False),))
        elif word in ("method", "bare"):
            kind = "bare" if word == "bare" else "open"
            method = Method(name, kind, (), None, None if kind == "bare" else Body(), False)
            new = replaced(item, methods=(method,) + item.methods)
        elif word == "over":
            known = [method for row in rows[:at] for method in row.methods if method.kind != "plain"]
            if known and known[-1].name not in [method.name for method in item.methods]:
                old = chance.one(known)
                if old.name not in [method.name for method in item.methods]:
                    new = replaced(item, methods=item.methods + (Method(old.name, "open", old.params, old.result, Body()),))
        elif word == "base" and earlier:
            base = chance.one(earlier)
            if base not in [pair[0] for pair in item.bases]:
                new = replaced(item, bases=item.bases + ((base, chance.one(["plain", "shared"])),))
        elif word == "order":
            new = replaced(item, bases=item.bases[::-1])
        elif word == "new":
            fresh = Class(f"N{number}")
            new = replaced(item, bases=((fresh.name, chance.one(["plain", "shared"])),) + item.bases)
        elif word == "kind" and item.bases:
            one = chance.random.randrange(len(item.bases))
            new = replaced(item, bases=tuple((base, chance.one(["plain", "shared"])) if place == one else (base, kind)
                                             for place, (base, kind) in enumerate(item.bases)))
        changed = rows[:at] + ([fresh] if fresh else []) + [new] + rows[at + 1:]
        if is_library(changed, library.routines()):
            rows = changed
    return Library(rows, library.routines())


class Unaccepted(unittest.TestCase):
    def check(self, old, new):
        """Check that a client that is returned is right, and return it."""
        one, other = Library(list(old)), Library(list(new))
        found = unaccepted(one, other)
        self.assertIsInstance(found, (Client, type(None)))
        if found is not None:
            self.assertTrue(is_small(found, one), found)
            self.assertFalse(accepted(Resolved(found, one), other))
        return found

    def refused(self, old, new):
        self.assertIsNotNone(self.check(old, new))

    def accepts(self, old, new):
        self.assertIsNone(self.check(old, new))

    def test_nothing_is_changed(self):
        for library in (Library([]), base_library()):
            self.assertIsNone(unaccepted(library, library))

    def test_needs_that_are_lacking(self):
        full = own("A", "", "a4", ["f", plain("p")])
        for other in (own("A", "", "a8", ["f", plain("p")]), own("A", "", "", ["f", plain("p")]),
                      own("A", "", "a4", [plain("p")]), own("A", "", "a4", ["f"]),
                      own("A", "", "a4", ["f", plain("p")], closed=True), own("A", "", "a4", ["f", plain("p")], lent=True),
                      own("A", "", "a4", ["f", plain("p"), bare("n", shown=False)])):
            self.refused([full], [other])
        self.refused([own("A"), own("B", "A")], [own("A"), own("B")])
        self.refused([own("A"), own("B")], [own("A")])
        self.refused([own("A", "", "", ["f"], closed=True)], [own("A", "", "", [opened("f", shown=False)], closed=True)])
        one = Library([], [Routine("r", (("x", "int1"),), None, Body())])
        self.assertIsNotNone(unaccepted(one, Library([], [Routine("r", (("x", "int2"),), None, Body())])))
        self.assertIsNone(unaccepted(Library([]), one))

    def test_numbers_do_not_matter(self):
        self.accepts([own("A", "", "a4 b8", ["f", "g"])], [own("A", "", "b8 a4", ["g", "f"])])
        hidden = (Field("h", "int8", 0, False), Field("a", "int4"))
        self.accepts([own("A", "", "a4")], [Class("A", (), hidden)])

    def test_new_names(self):
        for members in ({"fields": (Field("a", "int4"), Field("k", "int4"))}, {"methods": (plain("k"),)}, {"methods": (opened("k"),)},
                        {"methods": (bare("k"),)}):
            a = own("A", "", "a4", lent=True)
            self.refused([a], [replaced(a, **members)])
            shut = own("A", "", "a4", closed=True, lent=True)
            self.accepts([shut], [replaced(shut, **members)])
            # an heir from which clients may derive
            self.refused([shut, own("B", "A", lent=True)], [replaced(shut, **members), own("B", "A", lent=True)])
        self.accepts([own("A")], [Class("A", (), (Field("k", "int4", 0, False),), (plain("p", shown=False),))])
        self.accepts([own("A")], [own("A"), own("B", "A", "k4")])

    def test_a_method_that_another_class_introduces_now(self):
        f = own("A", "", "", ["f"]), own("B", "", "", ["f"])
        self.refused([*f, own("C", "A B", "", ["f"])], [*f, own("C", "B A", "", ["f"])])
        self.refused([*f, own("C", "A B", "", ["f"], closed=True)], [*f, own("C", "B A", "", ["f"], closed=True)])

    def test_a_method_that_means_another_thing_in_clients_alone(self):
        def rows(shared):
            return [own("S", "", "", ["f"]), own("T", "", "", ["f"]), own("X", "", "", ["f"]),
                    own("B", shared, "", ["f"])]
        # seen from B, f is that of X in both; behind a shared base the walk goes ahead
        found = self.check(rows("X +S +T"), rows("X +T +S"))
        self.assertIsNotNone(found)
        self.assertEqual(found.steps[0][0], "call")

    def test_two_bases_that_are_no_parts_together(self):
        # Z and A together are none, either
        self.refused([own("Z"), own("A")], [own("Z"), own("A", "+Z")])
        z = own("Z", closed=True)
        found = self.check([z, own("A"), own("B")], [z, own("A", "Z"), own("B", "Z")])
        self.assertEqual(len(found.classes[0].bases), 2)
        self.accepts([z, own("A"), own("B")], [z, own("A", "+Z"), own("B", "+Z")])
        self.refused([z, own("A"), own("B")], [z, own("A", "+Z"), own("B", "Z")])
        self.accepts([z, own("A"), own("B", closed=True)], [z, own("A", "Z"), own("B", "Z", closed=True)])

    def test_overrides_that_are_missing(self):
        s = own("S", "", "", ["f"])
        self.refused([s, own("A", "+S"), own("B", "+S", "", ["f"])], [s, own("A", "+S", "", ["f"]), own("B", "+S", "", ["f"])])
        # where it was missing before, each client has its own
        both = [own("A", "+S", "", ["f"]), own("B", "+S", "", ["f"])]
        self.accepts([s, *both], [s, *both])
        hidden = own("S", "", "", [opened("f", shown=False)])
        self.accepts([hidden, *both], [hidden, *both])
        one = own("S", "", "", ["f", opened("h", shown=False)])
        self.refused([one, *both], [one, own("A", "+S", "", ["f", "h"]), own("B", "+S", "", ["f", "h"])])

    def test_a_client_must_override_some_methods_to_be_valid_at_all(self):
        s = own("S", "", "", ["f", "g"])
        old = [s, own("A", "+S", "", ["f"]), own("B", "+S", "", ["f"])]
        new = [s, own("A", "+S", "", ["f", "g"]), own("B", "+S", "", ["f", "g"])]
        found = self.check(old, new)
        self.assertEqual([method.name for method in found.classes[0].methods], ["f"])

    def test_objects_that_cannot_be_made_any_more(self):
        old = [own("A", "", "", ["f"], lent=True)]
        found = self.check(old, [own("A", "", "", ["f", bare("n", shown=False)], lent=True)])
        self.assertEqual(found.steps[0][0], "new")
        self.refused(old, [own("A", "", "", [bare("f")], lent=True)])
        self.accepts([own("A", "", "", [bare("f")])], [own("A", "", "", [bare("f")])])
        # the class must override g so that it can be made
        found = self.check([own("A", "", "", ["f", bare("g")])], [own("A", "", "", [bare("f"), bare("g")])])
        self.assertEqual([method.name for method in found.classes[0].methods], ["g"])
        self.accepts([own("A", "", "", [bare("f")])], [own("A", "", "", ["f"])])

    def test_a_client_with_fewer_overrides_than_its_objects_need(self):
        s = own("S", "", "", [bare("f")])
        found = self.check([s, own("A", "+S"), own("B", "+S")],
                           [s, own("A", "+S", "", ["f"]), own("B", "+S", "", ["f"])])
        self.assertEqual((found.classes[0].methods, found.steps), ((), ()))

    def test_objects_that_no_client_can_make(self):
        # a hidden method without a body, whose name clients may name elsewhere with other forms
        rows = [own("A", "", "", [bare("f", (("p", "int1"),), shown=False)]), own("B", "", "", ["f"])]
        self.accepts(rows, rows)

    def test_more_overrides_than_a_class_can_have(self):
        names = [f"f{at}" for at in range(8)]
        one, two = own("S", "", "", names), own("T", "", "", ["g"])
        rows = [one, two, own("A", "+S +T", "", names), own("B", "+S +T", "", names)]
        # with nine methods without a last override no client derives from both
        over = [one, two, own("A", "+S", "", names), own("A1", "A +T", "", ["g"], closed=True), own("B", "+S", "", names),
                own("B1", "B +T", "", ["g"], closed=True)]
        self.accepts(rows, rows)
        self.accepts(over, over)

    def test_by_name_and_without_changes(self):
        old, new = Library([own("A")]), Library([own("A", "", "k4")])
        self.assertEqual(unaccepted(new=new, old=old), unaccepted(old, new))
        self.assertEqual((old, new), (Library([own("A")]), Library([own("A", "", "k4")])))


class ManyPairs(unittest.TestCase):
    def test_against_many_small_clients(self):
        counts = {"none": 0, "some": 0, "clients": 0, "two bases": 0}
        for seed in range(260):
            chance = Chance(random.Random(6000 + seed))
            old = some_library(chance, chance.one([2, 3, 5]))
            new = (hiding_library(chance, old, chance.one([1, 3, 5])) if chance.often(0.6)
                   else later_library(chance, old, chance.one([1, 2, 3])))
            found = unaccepted(old, new)
            if found is not None:
                counts["some"] += 1
                counts["two bases"] += any(len(item.bases) == 2 for item in found.classes)
                self.assertTrue(is_small(found, old))
                self.assertFalse(accepted(Resolved(found, old), new))
                continue
            counts["none"] += 1
            for _ in range(40):
                resolved = some_small_client(chance.random, old, new)
                if resolved is not None:
                    counts["clients"] += 1
                    self.assertTrue(accepted(resolved, new), seed)
        self.assertGreater(min(counts["none"], counts["some"]), 50, counts)
        self.assertGreater(counts["two bases"], 1)
        self.assertGreater(counts["clients"], 1000)


if __name__ == "__main__":
    unittest.main()
