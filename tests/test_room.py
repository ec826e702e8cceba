"""Holes, blocks, the least near size, and room for new fields (points 50 to 52)."""

import itertools
import random
import unittest

from oldclients.declared import Class, Field
from oldclients.layouts import Layout
from oldclients.libraries import Library
from oldclients.room import blocks, holes, least_near_size, least_order, room
from tests.chances import Chance, replaced, some_library
from tests.helpers import Bag, diamond, oddities, own, raised, strangers, wrong_names

SIZES = {"int1": 1, "int2": 2, "int4": 4, "int8": 8}
FORMS = sorted(SIZES)


def library_e():
    """Return the library of the document with the class E."""
    return Library([own("E", "", "a1 b8 c1 d4")])


def some_libraries(seed, many):
    """Yield libraries by chance."""
    for number in range(many):
        chance = Chance(random.Random(seed + number))
        yield chance, some_library(chance, chance.one([1, 3, 6]))


def own_bytes(library, name):
    """Return the pair: the list of the bytes of the near part, True where an own field lies, and where these begin."""
    layout = Layout(library)
    near = [False] * layout.near_size(name)
    places = dict(layout.places(name))
    bases = [base for base, kind in library.item(name).bases if kind == "plain"]
    begin = max([8 if library.is_open(name) else 0] + [places[base] + layout.near_size(base) for base in bases])
    for field in library.item(name).fields:
        place = [at for owner, other, at in layout.field_places(name) if (owner, other) == (name, field.name)][0]
        for at in range(place, place + SIZES.get(field.form, 8)):
            near[at] = True
    return near, begin


def slow_holes(library, name):
    """Return the holes, byte by byte."""
    near, begin = own_bytes(library, name)
    free = [at for at in range(begin, len(near)) if not near[at]]
    return [(at, next(end for end in range(at + 1, len(near) + 1) if end not in free)) for at in free
            if at - 1 not in free]


def slow_blocks(library, name):
    """Return the blocks, cut from the begin of each hole."""
    rows = []
    for begin, end in slow_holes(library, name):
        while begin < end:
            size = next(size for size in (8, 4, 2, 1) if begin % size == 0 and begin + size <= end)
            rows.append((begin, size))
            begin += size
    return rows


class Holes(unittest.TestCase):
    def test_the_example(self):
        self.assertEqual(holes(library_e(), "E"), [(1, 8), (17, 20)])
        self.assertEqual(blocks(library_e(), "E"), [(1, 1), (2, 2), (4, 4), (17, 1), (18, 2)])

    def test_classes_without_fields(self):
        library = Library([own("A"), own("B", "A"), own("P", "", "", ["f"]), own("Q", "P"), own("R", "A P")])
        self.assertEqual([holes(library, name) for name in library.names()], [[(0, 1)], [], [], [], []])
        self.assertEqual([blocks(library, name) for name in library.names()], [[(0, 1)], [], [], [], []])

    def test_behind_a_pointer(self):
        library = Library([own("A", "", "a1 b4", ["f"]), own("S", "", "s4"), own("B", "+S", "b1 c2 d8")])
        self.assertEqual(holes(library, "A"), [(9, 12)])
        self.assertEqual(holes(library, "B"), [(9, 10), (12, 16)])
        self.assertEqual(blocks(library, "B"), [(9, 1), (12, 4)])

    def test_behind_plain_bases(self):
        library = Library([own("A", "", "a1 b4"), own("B", "A", "c8 d1"), own("C", "A", "e1 f2"), own("D", "C", "g4 h4")])
        # the holes of the bases, and those between them, are none of the class
        self.assertEqual(holes(library, "A"), [(1, 4)])
        self.assertEqual(holes(library, "B"), [])
        self.assertEqual(holes(library, "C"), [(9, 10)])
        self.assertEqual(holes(library, "D"), [])
        self.assertEqual(Layout(library).field_places("B")[-2:], [("B", "c", 8), ("B", "d", 16)])

    def test_a_gap_up_to_the_first_field(self):
        library = Library([own("A", "", "a1"), own("B", "A", "b8"), own("C", "B", "c1 d8")])
        self.assertEqual(holes(library, "B"), [(1, 8)])
        self.assertEqual(holes(library, "C"), [(17, 24)])

    def test_gaps_between_bases_are_none(self):
        library = Library([own("A", "", "a1"), own("B", "", "b8"), own("C", "A B", "c1 d2")])
        self.assertEqual(Layout(library).places("C"), [("C", 0), ("A", 0), ("B", 8)])
        self.assertEqual(holes(library, "C"), [(17, 18)])

    def test_the_primary_base_behind_another_one(self):
        library = Library([own("A", "", "a1"), own("P", "", "p1", ["f"]), own("C", "A P", "c4"), own("D", "A P")])
        self.assertEqual(Layout(library).places("C"), [("C", 0), ("A", 9), ("P", 0)])
        self.assertEqual(holes(library, "C"), [(10, 12)])
        self.assertEqual(holes(library, "D"), [])

    def test_references_are_fields_of_eight(self):
        library = Library([Class("A", (), (Field("a", "int1"), Field("r", "A"), Field("b", "int2")))])
        self.assertEqual(holes(library, "A"), [(1, 8)])

    def test_many_classes(self):
        seen = set()
        for _, library in some_libraries(100, 150):
            for name in library.names():
                found = holes(library, name)
                self.assertEqual(found, slow_holes(library, name))
                self.assertEqual(blocks(library, name), slow_blocks(library, name))
                seen |= {size for _, size in blocks(library, name)}
        self.assertEqual(seen, {1, 2, 4})

    def test_no_class(self):
        for name in wrong_names():
            for call in (holes, blocks, least_near_size, least_order):
                self.assertEqual(raised(call, library_e(), name)[0], "NoClass")
            self.assertEqual(raised(room, library_e(), name, None)[0], "NoClass")
        self.assertEqual(raised(holes, library_e(), "F"), ("NoClass", "F"))


def near_size_with(library, name, fields):
    """Return the near size that a class has with other own fields."""
    classes = [replaced(library.item(other), fields=tuple(fields)) if other == name else library.item(other)
               for other in library.names()]
    return Layout(Library(classes, library.routines())).near_size(name)


def end_of(start, sizes):
    """Return where fields of these sizes end, one behind the other, at least 1."""
    for size in sizes:
        start = -(-start // size) * size + size
    return max(1, start)


class Least(unittest.TestCase):
    def check(self, library, name):
        least, order = least_near_size(library, name), least_order(library, name)
        fields = {field.name: field for field in library.item(name).fields}
        self.assertIs(type(order), tuple)
        self.assertEqual(sorted(order), sorted(fields))
        self.assertEqual(near_size_with(library, name, [fields[one] for one in order]), least)
        return least

    def test_the_example(self):
        self.assertEqual(self.check(library_e(), "E"), 14)

    def test_without_fields(self):
        library = Library([own("A"), own("B", "A"), own("P", "", "", ["f"]), own("C", "P", "", ["g"])])
        self.assertEqual([self.check(library, name) for name in library.names()], [1, 1, 8, 8])
        self.assertEqual([least_order(library, name) for name in library.names()], [()] * 4)

    def test_all_orders_in_the_library(self):
        for chance, library in some_libraries(300, 60):
            for name in library.names():
                fields = library.item(name).fields
                sizes = [near_size_with(library, name, row) for row in itertools.permutations(fields)]
                self.assertEqual(self.check(library, name), min(sizes))

    def test_all_orders_of_many_sizes(self):
        chance = random.Random(5)
        for start in range(0, 17):
            for _ in range(12):
                sizes = [chance.choice([1, 1, 2, 2, 4, 8]) for _ in range(chance.randrange(1, 7))]
                bases = "Z" if start else ""
                rows = [Class("Z", (), tuple(Field(f"z{k}", "int1") for k in range(min(8, start))))] if start else []
                if start > 8:
                    rows.append(Class("Y", (("Z", "plain"),), tuple(Field(f"y{k}", "int1") for k in range(start - 8))))
                    bases = "Y"
                fields = " ".join(f"f{k}{size}" for k, size in enumerate(sizes))
                library = Library(rows + [own("C", bases, fields)])
                wanted = min(end_of(start, row) for row in set(itertools.permutations(sizes)))
                self.assertEqual(self.check(library, "C"), wanted, (start, sizes))

    def test_eight_fields(self):
        library = Library([own("A", "", "a1 b8 c1 d4 e2 f1 g8 h2")])
        self.assertEqual(self.check(library, "A"), 27)
        self.assertEqual(self.check(Library([own("Z", "", "z1"), own("A", "Z", "a1 b8 c1 d4 e2 f1 g8 h2")]), "A"), 28)

    def test_bases_and_shared_ancestors_stay(self):
        self.assertEqual([self.check(diamond(), name) for name in "ABCD"], [12, 9, 16, 34])


def all_places(free, sizes):
    """Return whether fields of these sizes have places in free bytes, by a search through all of them."""
    if not sizes:
        return True
    size = sizes[0]
    for place in sorted(free):
        spot = set(range(place, place + size))
        if place % size == 0 and spot <= free and all_places(free - spot, sizes[1:]):
            return True
    return False


class Room(unittest.TestCase):
    def check(self, library, name, forms):
        """Check what room returns, against a search through all places, and return it."""
        free = {at for begin, end in holes(library, name) for at in range(begin, end)}
        sizes = [SIZES.get(form, 8) for form in forms]
        word, found = room(library, name, forms)
        self.assertEqual(word == "places", all_places(free, sorted(sizes, reverse=True)), (free, sizes))
        if word == "places":
            self.assertIs(type(found), list)
            spots = [set(range(place, place + size)) for place, size in zip(found, sizes)]
            self.assertEqual(len(spots), len(sizes))
            self.assertEqual([place % size for place, size in zip(found, sizes)], [0] * len(sizes))
            self.assertTrue(set().union(*spots) <= free)
            self.assertEqual(sum(map(len, spots)), len(set().union(*spots)))
        else:
            self.assertEqual(found, self.slow_full(blocks(library, name), sizes))
        return word, found

    def slow_full(self, free, sizes):
        return max(least for least in (1, 2, 4, 8)
                   if sum(size for size in sizes if size >= least) > sum(size for _, size in free if size >= least))

    def test_the_examples(self):
        library = library_e()
        self.assertEqual(room(library, "E", ["int4", "int4"]), ("full", 4))
        self.assertEqual(room(library, "E", ["int8"]), ("full", 8))
        self.assertEqual(room(library, "E", ["int4"]), ("places", [4]))

    def test_all_small_rows(self):
        seen = set()
        libraries = [library_e(), Library([own("A"), own("E", "A", "a1 b4 c1 d8 e2")]),
                     Library([own("E")]), Library([own("E", "", "a1 b8", ["f"])]), Library([own("E", "", "a8")])]
        for library in libraries:
            for many in (1, 2, 3, 4):
                for forms in itertools.product(FORMS, repeat=many):
                    seen.add(self.check(library, "E", list(forms))[0])
        self.assertEqual(seen, {"places", "full"})

    def test_up_to_eight(self):
        chance = random.Random(3)
        library = Library([own("Z", "", "z1"), own("E", "Z", "a8 b1 c8 d1 e4")])
        for _ in range(200):
            forms = [chance.choice(FORMS[:3]) for _ in range(chance.randrange(5, 9))]
            self.check(library, "E", forms)
        self.assertEqual(room(library, "E", ["int1"] * 8)[0], "places")
        self.assertEqual(self.check(library, "E", ["int2"] * 8), ("full", 2))
        self.assertEqual(self.check(library, "E", ["int1", "int4", "int2", "int1", "int4", "int2", "int2", "int1"])[0],
                         "places")
        self.assertEqual(self.check(library_e(), "E", ["int1"] * 8)[0], "places")
        self.assertEqual(self.check(library_e(), "E", ["int2"] * 5), ("full", 2))
        self.assertEqual(self.check(library_e(), "E", ["int4", "int2", "int2", "int1", "int1", "int1"]), ("full", 1))

    def test_the_greatest_size_is_told(self):
        library = library_e()
        self.assertEqual(self.check(library, "E", ["int8", "int4", "int4", "int1"]), ("full", 8))
        self.assertEqual(self.check(library, "E", ["int4", "int4", "int2", "int2", "int2"]), ("full", 4))
        self.assertEqual(self.check(library, "E", ["int2"] * 3 + ["int4"]), ("full", 2))
        self.assertEqual(self.check(Library([own("E", "", "a1")]), "E", ["int1"]), ("full", 1))

    def test_forms_that_are_classes(self):
        library = Library([own("A", "", "a1"), own("E", "A", "b8 c1")])
        self.assertEqual(room(library, "E", ["A"]), ("full", 8))
        self.assertEqual(room(library, "E", ["E", "int1"]), ("full", 8))
        self.assertEqual(room(library, "E", ["int4", "int1"]), ("places", [4, 1]))

    def test_lists_and_tuples(self):
        for forms in (["int4", "int1"], ["int2"] * 5):
            self.assertEqual(room(library_e(), "E", forms), room(library_e(), "E", tuple(forms)))

    def test_by_chance(self):
        counts = {"places": 0, "full": 0}
        for chance, library in some_libraries(700, 80):
            for name in library.names():
                if not holes(library, name):
                    continue
                for _ in range(4):
                    forms = [chance.one(FORMS + library.names()) if chance.often(0.3) else chance.one(FORMS[:3])
                             for _ in range(chance.one([1, 2, 3]))]
                    counts[self.check(library, name, forms)[0]] += 1
        self.assertGreater(min(counts.values()), 40, counts)

    def test_no_fields(self):
        for forms in strangers() + oddities() + ["int1", 1, True, "", {"int1": 1}, [], (), ["int1"] * 9, ("int1",) * 9,
                                                 Bag(items=["int1"])]:
            if not isinstance(forms, (list, tuple)) or len(forms) not in range(1, 9):
                self.assertEqual(raised(room, library_e(), "E", forms), ("NoFields", -1))
        for form in strangers() + oddities() + ["int3", "F", "", 1, True, ("int1",), [], Field("a", "int1")]:
            self.assertEqual(raised(room, library_e(), "E", [form]), ("NoFields", 0))
            self.assertEqual(raised(room, library_e(), "E", ("int8", "E", form, "int3")), ("NoFields", 2))

    def test_no_class_goes_first(self):
        self.assertEqual(raised(room, library_e(), "F", []), ("NoClass", "F"))
        self.assertEqual(raised(room, library_e(), [], ["int9"]), ("NoClass", []))

    def test_by_name_and_without_changes(self):
        library, forms = library_e(), ["int4", "int1"]
        self.assertEqual(room(forms=forms, name="E", library=library), room(library, "E", forms))
        self.assertEqual(forms, ["int4", "int1"])
        for call in (holes, blocks, least_near_size, least_order):
            self.assertEqual(call(name="E", library=library), call(library, "E"))
        holes(library, "E").clear()
        blocks(library, "E").clear()
        room(library, "E", forms)[1].clear()
        self.assertEqual(holes(library, "E"), [(1, 8), (17, 20)])
        self.assertEqual(len(blocks(library, "E")), 5)
        self.assertEqual(len(room(library, "E", forms)[1]), 2)
        self.assertEqual(library, library_e())


if __name__ == "__main__":
    unittest.main()
