"""Points 6 to 18: many libraries, each compared with the slow words of the document."""

import random
import unittest

from oldclients.declared import Body, Class, Field, Method
from oldclients.layouts import Layout
from oldclients.libraries import Library
from tests.helpers import raised
from tests.slow import Slow

FORMS = ["int1", "int2", "int4", "int8", "C0"]
RESULTS = {"f": None, "g": "int4", "h": "C0", "k": "int1"}


def some_method(chance, name):
    """Return a method of some kind; its forms are mostly those of its name."""
    kind = chance.choice(["open", "open", "open", "bare"] if chance.random() < 0.95 else ["plain"])
    result = RESULTS[name] if chance.random() < 0.97 else "int2"
    shown = chance.random() < 0.8
    return Method(name, kind, (("p", "int1"),), result, None if kind == "bare" else Body(), shown)


def some_class(chance, classes, is_shared):
    """Return a class behind others, which may be wrong in parts, names and overrides."""
    number = len(classes)
    many = min(number, chance.choice([1, 2, 2, 3] if is_shared else [0, 1, 1, 2, 2, 3, 4]))
    usual = "shared" if is_shared else chance.choice(["plain", "shared", "mixed"])
    kinds = ["plain", "shared"] if usual == "mixed" else [usual]
    bases = tuple((item.name, chance.choice(kinds)) for item in chance.sample(classes, many))
    fields = tuple(Field(f"a{number}x{at}" if chance.random() < 0.97 else "z", chance.choice(FORMS), 0,
                         chance.random() < 0.8) for at in range(chance.choice([0, 0, 1, 2, 3])))
    if len({field.name for field in fields}) < len(fields):
        fields = fields[:1]
    names = chance.sample(sorted(RESULTS), chance.choice([0, 0, 0, 1, 1, 2, 4]))
    if is_shared:
        names = chance.choice([[], ["f"], ["f", "g"], ["g"]])
    methods = tuple(some_method(chance, name) for name in names)
    if chance.random() < 0.2:
        methods += (Method(f"p{number}", "plain", (), None, Body(), chance.random() < 0.5),)
    return Class(f"C{number}", bases, fields, methods)


def some_libraries(seed, many):
    """Yield lists of valid classes, and lists whose last class is wrong, each with the part of NoLibrary or None."""
    chance = random.Random(seed)
    for _ in range(many):
        classes, tries = [], 0
        is_shared = chance.random() < 0.4
        size = 10 if is_shared else chance.choice([1, 3, 5, 8, 12])
        while len(classes) < size and tries < 40:
            tries += 1
            item = some_class(chance, classes, is_shared)
            wrong = Slow(classes + [item]).wrong(item.name)
            if wrong is None:
                classes.append(item)
            else:
                yield classes + [item], wrong
        yield classes, None


class Compared(unittest.TestCase):
    def test_valid_and_invalid_ones(self):
        seen = {"parts": 0, "names": 0, "overrides": 0, None: 0}
        for classes, wrong in some_libraries(1, 250):
            seen[wrong] += 1
            found = raised(Library, classes)
            self.assertEqual(found, None if wrong is None else ("NoLibrary", len(classes) - 1, wrong, -1))
        self.assertGreater(min(seen.values()), 20, seen)

    def test_ancestors(self):
        for classes, wrong in some_libraries(2, 120):
            if wrong is None:
                library, slow = Library(classes), Slow(classes)
                for name in library.names():
                    self.assertEqual(library.ancestors(name), slow.ancestors(name))
                    self.assertEqual(library.walk(name), slow.walk(name))
                    self.assertEqual(library.near(name), slow.near(name))
                    self.assertIs(library.is_open(name), slow.is_open(name))
                    self.assertEqual(library.introducers(name), slow.introducers(name))
                    self.assertIs(library.is_bare(name), slow.is_bare(name))
                    for owner, method in slow.introducers(name):
                        self.assertEqual(library.last_override(name, owner, method),
                                         slow.last_override(name, owner, method))
                    for member in sorted({row.name for item in classes for row in item.fields + item.methods}):
                        for hidden in (True, False):
                            self.assertEqual(library.found(name, member, hidden=hidden),
                                             slow.found(name, member, hidden))

    def test_numbers_and_tables(self):
        ways = 0
        for classes, wrong in some_libraries(3, 120):
            if wrong is None:
                library, slow = Library(classes), Slow(classes)
                layout = Layout(library)
                for name in library.names():
                    ways += len(slow.walk(name)) > 1
                    places, size = slow.whole(name)
                    self.assertEqual(layout.near_size(name), slow.laid(name)[2])
                    self.assertEqual(layout.alignment(name), slow.alignment(name))
                    self.assertEqual(layout.whole_size(name), size)
                    self.assertEqual(layout.places(name), places)
                    self.assertEqual(layout.field_places(name), slow.field_places(name))
                    self.assertEqual(layout.pointers(name), slow.pointers(name))
                    self.assertEqual(layout.entries(name), slow.entries(name) if slow.is_open(name) else [])
                    self.assertEqual(layout.ways(name), slow.ways(name))
                    self.assertEqual(layout.tables(name), slow.tables(name))
                    for ancestor in slow.family(name):
                        self.assertEqual(layout.reach(name, ancestor), slow.reach(name, ancestor))
        self.assertGreater(ways, 30)

    def test_no_byte_belongs_to_two(self):
        for classes, wrong in some_libraries(4, 60):
            if wrong is None:
                layout = Layout(Library(classes))
                forms = {(item.name, field.name): field.form for item in classes for field in item.fields}
                sizes = {"int1": 1, "int2": 2, "int4": 4}
                for item in classes:
                    taken = []
                    for _, place in layout.pointers(item.name):
                        taken += range(place, place + 8)
                    for part, begin in layout.places(item.name):
                        for owner, field, place in layout.field_places(part):
                            if owner == part:
                                size = sizes.get(forms[owner, field], 8)
                                self.assertEqual((begin + place) % size, 0)
                                taken += range(begin + place, begin + place + size)
                    self.assertEqual(len(set(taken)), len(taken))
                    self.assertLessEqual(max(taken + [0]), layout.whole_size(item.name))


if __name__ == "__main__":
    unittest.main()
