"""New hidden fields that leave all clients alike (point 53)."""

import itertools
import random
import unittest

from oldclients.compiler import Code
from oldclients.declared import Class, Field, Routine, Body
from oldclients.errors import NoLibrary, NoRoom
from oldclients.exposed import unlike
from oldclients.layouts import Layout
from oldclients.libraries import Library
from oldclients.widening import widened
from tests.chances import Chance, items, replaced, some_client, some_library
from tests.helpers import Bag, oddities, own, raised, strangers, wrong_names

FORMS = ["int1", "int2", "int4", "int8"]
SHUT = {"closed": True, "lent": True}


def new_fields(*forms):
    """Return hidden fields of some forms."""
    return [Field(f"new{at}", form, 0, False) for at, form in enumerate(forms)]


def library_e(**marks):
    """Return the library of the document with the class E."""
    return Library([own("E", "", "a1 b8 c1 d4", **marks)])


def own_places(library, name):
    """Return the places of the own fields of a class, by their names."""
    return {field: place for owner, field, place in Layout(library).field_places(name) if owner == name}


def with_fields(library, name, fields):
    """Return a library with other own fields in a class."""
    return Library([replaced(item, fields=tuple(fields)) if item.name == name else item for item in items(library)],
                   library.routines())


def all_ways(library, name, fields):
    """Return all libraries in which a class has these fields, too, and the old ones stay where they are."""
    old = library.item(name).fields
    wanted = own_places(library, name)
    for row in itertools.permutations(range(len(old) + len(fields))):
        if [at for at in row if at < len(old)] == list(range(len(old))):
            found = with_fields(library, name, [(list(old) + list(fields))[at] for at in row])
            places = own_places(found, name)
            if all(places[field] == place for field, place in wanted.items()):
                yield found


def slow_widened(library, name, fields):
    """Return the pair: whether there is such a library, and the least near size."""
    rows = list(all_ways(library, name, fields))
    return (any(unlike(library, found) is None for found in rows),
            min(Layout(found).near_size(name) for found in rows))


class Widened(unittest.TestCase):
    def check(self, library, name, fields):
        """Check what widened does, against a search through all orders, and return the library or None."""
        is_there, least = slow_widened(library, name, fields)
        try:
            found = widened(library, name, fields)
        except NoRoom as error:
            self.assertFalse(is_there)
            self.assertEqual(error.size, least)
            return None
        self.assertTrue(is_there)
        self.assertEqual(Layout(found).near_size(name), least)
        self.same_but_for(library, found, name, fields)
        return found

    def same_but_for(self, library, found, name, fields):
        """Check that a library differs by the new fields alone, and that the old ones are where they were."""
        old, rows = library.item(name).fields, found.item(name).fields
        self.assertEqual([field for field in rows if field in old], list(old))
        self.assertEqual(sorted(field.name for field in rows), sorted(field.name for field in [*old, *fields]))
        for field in fields:
            self.assertIn(field, rows)
        self.assertEqual(with_fields(found, name, old), library)
        places = own_places(found, name)
        self.assertEqual({field.name: places[field.name] for field in old}, own_places(library, name))
        self.assertIsNone(unlike(library, found))

    def test_the_examples(self):
        found = self.check(library_e(**SHUT), "E", new_fields("int8"))
        self.assertEqual([field.name for field in found.item("E").fields], ["a", "b", "c", "d", "new0"])
        self.assertEqual(Layout(found).near_size("E"), 32)
        self.assertEqual(raised(widened, library_e(), "E", new_fields("int8")), ("NoRoom", 32))
        found = self.check(library_e(), "E", new_fields("int4"))
        self.assertEqual([field.name for field in found.item("E").fields], ["a", "new0", "b", "c", "d"])
        self.assertEqual(own_places(found, "E")["new0"], 4)

    def test_each_mark(self):
        for closed, lent, wanted in ((True, True, 32), (True, False, None), (False, True, None), (False, False, None)):
            found = self.check(library_e(closed=closed, lent=lent), "E", new_fields("int8"))
            self.assertEqual(None if found is None else Layout(found).near_size("E"), wanted)

    def test_the_whole_size_may_be_rounded(self):
        library = Library([own("E", "", "a8 b1", closed=True)])
        self.assertIsNotNone(self.check(library, "E", new_fields("int4", "int2", "int1")))
        self.assertIsNone(self.check(library, "E", new_fields("int4", "int2", "int1", "int1")))
        self.assertIsNone(self.check(Library([own("E", "", "a8 b1")]), "E", new_fields("int1")))

    def test_the_alignment_counts(self):
        row = (Field("a", "int1"), Field("b", "int4"))
        library = Library([Class("A", (), (Field("z", "int1"),), (), True, True), Class("E", (("A", "plain"),), row)])
        self.assertIsNotNone(self.check(library, "E", new_fields("int2")))
        self.assertIsNone(self.check(Library([own("E", "", "a1 b1 c1 d2")]), "E", new_fields("int4")))

    def test_classes_without_fields(self):
        self.assertIsNotNone(self.check(Library([own("E")]), "E", new_fields("int1")))
        self.assertIsNone(self.check(Library([own("E")]), "E", new_fields("int1", "int1")))
        self.assertEqual(raised(widened, Library([own("E")]), "E", new_fields("int1", "int8")), ("NoRoom", 9))
        self.assertIsNotNone(self.check(Library([own("E", **SHUT)]), "E", new_fields("int1", "int8")))

    def test_classes_from_which_others_derive(self):
        for marks, base, wanted in (({}, SHUT, False), (SHUT, {}, False), (SHUT, SHUT, True)):
            library = Library([own("E", "", "a4", **base), own("F", "E", "f1", **marks)])
            found = self.check(library, "E", new_fields("int4"))
            # f moves, so it must not be shown, either
            self.assertIsNone(found)
            rows = (Field("f", "int1", 0, False),)
            library = Library([own("E", "", "a4", **base), Class("F", (("E", "plain"),), rows, (), *marks.values())])
            self.assertEqual(self.check(library, "E", new_fields("int4")) is not None, wanted)

    def test_classes_from_which_others_derive_shared(self):
        library = Library([own("E", "", "a4", **SHUT), own("F", "+E", "f8")])
        self.assertIsNotNone(self.check(library, "E", new_fields("int4")))
        self.assertIsNotNone(self.check(library, "E", new_fields("int2", "int1", "int1")))
        self.assertIsNone(self.check(library, "E", new_fields("int4", "int1")))

    def test_the_size_is_that_with_the_old_places(self):
        # in another order of all fields 8 would be enough
        library = Library([own("E", "", "a1 b4 c1")])
        self.assertEqual(raised(widened, library, "E", new_fields("int2")), None)
        self.assertEqual(raised(widened, library, "E", new_fields("int2", "int2")), ("NoRoom", 12))

    def test_every_row_of_up_to_three(self):
        counts = {True: 0, False: 0}
        libraries = [library_e(), library_e(**SHUT), library_e(closed=True), Library([own("E", "", "a1 b4", ["f"])]),
                     Library([own("Z", "", "z1"), own("E", "Z", "a2 b8")])]
        for library in libraries:
            for many in (1, 2, 3):
                for forms in itertools.combinations_with_replacement(FORMS, many):
                    counts[self.check(library, "E", new_fields(*forms)) is not None] += 1
        self.assertGreater(min(counts.values()), 20, counts)

    def test_by_chance(self):
        counts = {True: 0, False: 0}
        for seed in range(120):
            chance = Chance(random.Random(9000 + seed))
            library = some_library(chance, chance.one([1, 2, 4]))
            if chance.often(0.6):
                library = Library([replaced(item, closed=chance.often(0.8), lent=chance.often(0.8))
                                   for item in items(library)], library.routines())
            name = chance.one(library.names())
            forms = [chance.one(FORMS + ["int1", name]) for _ in range(chance.one([1, 1, 2, 3]))]
            if len(library.item(name).fields) + len(forms) > 5:
                continue
            fields = tuple(Field(f"w{at}", form, 0, False) for at, form in enumerate(forms))
            found = self.check(library, name, fields)
            counts[found is not None] += 1
            if found is not None:
                client = some_client(chance, library)
                self.assertEqual(Code(client, found), Code(client))
        self.assertGreater(min(counts.values()), 15, counts)

    def test_starts_are_kept(self):
        field = Field("n", "int2", -7, False)
        found = widened(library_e(), "E", [field])
        self.assertIn(field, found.item("E").fields)

    def test_by_name_and_without_changes(self):
        library, fields = library_e(), new_fields("int4")
        found = widened(fields=fields, name="E", library=library)
        self.assertEqual(found, widened(library, "E", tuple(fields)))
        self.assertEqual((library, fields), (library_e(), new_fields("int4")))
        fields.clear()
        self.assertEqual(len(found.item("E").fields), 5)

    def test_routines_and_other_classes_stay(self):
        library = Library([own("A", "", "x1"), own("E", "A", "a1 b8"), own("F", "+E", "f1")],
                          [Routine("r", (("p", "E"),), None, Body())])
        found = self.check(library, "E", new_fields("int4"))
        self.assertEqual(found.routines(), library.routines())
        self.assertEqual(found.names(), library.names())


class Wrong(unittest.TestCase):
    def wrong(self, fields, library=None, name="E"):
        return raised(widened, library_e() if library is None else library, name, fields)

    def test_no_class(self):
        for name in wrong_names():
            self.assertEqual(self.wrong(None, name=name)[0], "NoClass")
        self.assertEqual(self.wrong([], name="F"), ("NoClass", "F"))

    def test_no_row(self):
        for fields in strangers() + oddities() + [(), [], 1, True, "new", {"a": 1}, Field("n", "int1", 0, False),
                                                  Bag(fields=()), new_fields(*["int1"] * 5), new_fields(*["int1"] * 9)]:
            if isinstance(fields, list) and fields == ["A"]:
                continue
            self.assertEqual(self.wrong(fields), ("NoFields", -1))
        self.assertNotEqual(self.wrong(new_fields(*["int1"] * 4)), ("NoFields", -1))
        # that there are too many goes ahead of what they are
        self.assertEqual(self.wrong([None] * 5), ("NoFields", -1))

    def test_no_hidden_field(self):
        right = Field("n", "int1", 0, False)
        shown = [Field("m", "int1", 0, shown) for shown in (True, 0, 1, None, "", [], *oddities())]
        for field in strangers() + oddities() + shown + ["int1", Bag(name="m", form="int1", start=0, shown=False)]:
            self.assertEqual(self.wrong([field]), ("NoFields", 0))
            self.assertEqual(self.wrong((right, field, None)), ("NoFields", 1))

    def test_an_invalid_library(self):
        right = Field("n", "int1", 0, False)
        for field in (Field("a", "int1", 0, False), Field("n", "int2", 0, False), Field("N", "int1", 0, False),
                      Field("", "int1", 0, False), Field("m", "int3", 0, False), Field("m", "F", 0, False),
                      Field("m", "int1", 128, False), Field("m", "E", 1, False), Field("m", "int1", True, False),
                      Field(None, "int1", 0, False), Field("m", [], 0, False), Field([], {}, (), False)):
            self.assertEqual(self.wrong([right, field]), ("NoFields", 1))
        self.assertEqual(self.wrong([Field("m", "E", 0, False)]), ("NoRoom", 32))

    def test_names_of_ancestors_heirs_and_methods(self):
        library = Library([own("A", "", "x1", ["f"]), own("E", "A", "a1 b8", ["g"]), own("F", "+E", "y1", ["h"]),
                           own("Other", "", "z1")])
        for name in ("x", "f", "g", "a", "y", "h"):
            row = [Field("n", "int1", 0, False), Field(name, "int1", 0, False)]
            self.assertEqual(self.wrong(row, library), ("NoFields", 1))
        self.assertIsNone(self.wrong([Field("z", "int1", 0, False)], library))

    def test_no_fields_goes_ahead_of_no_room(self):
        self.assertEqual(self.wrong([Field("n", "int8", 0, False), None]), ("NoFields", 1))
        self.assertEqual(self.wrong(new_fields("int8", "int8")), ("NoRoom", 40))

    def test_the_library_is_really_invalid(self):
        with self.assertRaises(NoLibrary):
            with_fields(library_e(), "E", [*library_e().item("E").fields, Field("a", "int1", 0, False)])


if __name__ == "__main__":
    unittest.main()
