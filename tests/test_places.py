"""Points 13 to 16: near parts, whole objects, and how parts and fields are found."""

import unittest

from oldclients.declared import Class, Field
from oldclients.errors import NoClass, NoMember
from oldclients.layouts import Layout
from oldclients.libraries import Library
from tests.helpers import diamond, diamond_classes, oddities, opened, own, plain, raised, strangers, wrong_names


def laid(*classes):
    """Return the layout of a library of these classes."""
    return Layout(Library(list(classes)))


def sizes(layout, name):
    """Return the near size, the alignment and the whole size of a class."""
    return layout.near_size(name), layout.alignment(name), layout.whole_size(name)


class Diamond(unittest.TestCase):
    def setUp(self):
        self.layout = Layout(diamond())

    def test_sizes(self):
        self.assertEqual([self.layout.near_size(name) for name in "ABCD"], [12, 9, 16, 34])
        self.assertEqual([self.layout.alignment(name) for name in "ABCD"], [8, 8, 8, 8])
        self.assertEqual([self.layout.whole_size(name) for name in "ABCD"], [16, 32, 32, 56])

    def test_places(self):
        self.assertEqual(self.layout.places("D"), [("D", 0), ("B", 0), ("C", 16), ("A", 40)])
        self.assertEqual(self.layout.places("B"), [("B", 0), ("A", 16)])
        self.assertEqual(self.layout.places("A"), [("A", 0)])

    def test_field_places(self):
        self.assertEqual(self.layout.field_places("D"), [("B", "b", 8), ("C", "c", 24), ("D", "d", 32)])
        self.assertEqual(self.layout.field_places("A"), [("A", "a", 8)])

    def test_pointers(self):
        self.assertEqual(self.layout.pointers("D"), [("D", 0), ("C", 16), ("A", 40)])
        self.assertEqual(self.layout.pointers("C"), [("C", 0), ("A", 16)])

    def test_reaches(self):
        self.assertEqual(self.layout.reach("D", "C"), ("place", 16))
        self.assertEqual(self.layout.reach("D", "B"), ("place", 0))
        self.assertEqual(self.layout.reach("D", "A"), ("way", -3, 0))
        self.assertEqual(self.layout.reach("D", "D"), ("place", 0))
        self.assertEqual(self.layout.field_reach("D", "A", "a"), ("way", -3, 8))
        self.assertEqual(self.layout.field_reach("D", "C", "c"), ("place", 24))
        self.assertEqual(self.layout.field_reach("D", "D", "d"), ("place", 32))


class Fields(unittest.TestCase):
    def test_no_members(self):
        layout = laid(own("A"))
        self.assertEqual(sizes(layout, "A"), (1, 1, 1))
        self.assertEqual(layout.places("A"), [("A", 0)])
        self.assertEqual(layout.field_places("A"), [])
        self.assertEqual(layout.pointers("A"), [])

    def test_plain_methods_take_nothing(self):
        self.assertEqual(sizes(laid(own("A", methods=[plain("p")])), "A"), (1, 1, 1))

    def test_sizes_of_forms(self):
        for form, size in (("int1", 1), ("int2", 2), ("int4", 4), ("int8", 8), ("A", 8)):
            layout = laid(Class("A", (), (Field("x", "int1"), Field("y", form))))
            self.assertEqual(layout.field_places("A"), [("A", "x", 0), ("A", "y", size)])
            self.assertEqual(sizes(layout, "A"), (2 * size, size, 2 * size))

    def test_each_at_the_next_multiple_of_its_size(self):
        layout = laid(own("A", "", "a1 b8 c1 d4 e2 f1"))
        places = [place for _, _, place in layout.field_places("A")]
        self.assertEqual(places, [0, 8, 16, 20, 24, 26])
        self.assertEqual(sizes(layout, "A"), (27, 8, 32))

    def test_near_size_is_not_rounded_but_whole_size_is(self):
        self.assertEqual(sizes(laid(own("A", "", "a4 b1")), "A"), (5, 4, 8))
        self.assertEqual(sizes(laid(own("A", "", "a2 b1")), "A"), (3, 2, 4))
        self.assertEqual(sizes(laid(own("A", "", "a1 b1 c1")), "A"), (3, 1, 3))

    def test_hidden_fields_lie_as_others(self):
        layout = laid(Class("A", (), (Field("x", "int4", 0, False), Field("y", "int1"))))
        self.assertEqual(layout.field_places("A"), [("A", "x", 0), ("A", "y", 4)])


class Pointers(unittest.TestCase):
    def test_open_by_a_method(self):
        layout = laid(own("A", "", "a1", ["f"]))
        self.assertEqual(sizes(layout, "A"), (9, 8, 16))
        self.assertEqual(layout.field_places("A"), [("A", "a", 8)])
        self.assertEqual(layout.pointers("A"), [("A", 0)])

    def test_open_by_a_shared_base(self):
        layout = laid(own("A", "", "a1"), own("B", "+A", "b1"))
        self.assertEqual(sizes(layout, "B"), (9, 8, 24))
        self.assertEqual(layout.pointers("B"), [("B", 0)])
        self.assertEqual(layout.places("B"), [("B", 0), ("A", 16)])

    def test_a_pointer_alone(self):
        self.assertEqual(sizes(laid(own("A", methods=["f"])), "A"), (8, 8, 8))


class PlainBases(unittest.TestCase):
    def test_bases_without_pointers(self):
        layout = laid(own("A", "", "a4 b1"), own("B", "", "c2"), own("C", "A B", "d1"))
        self.assertEqual(layout.places("C"), [("C", 0), ("A", 0), ("B", 6)])
        self.assertEqual(layout.field_places("C"), [("A", "a", 0), ("A", "b", 4), ("B", "c", 6), ("C", "d", 8)])
        self.assertEqual(sizes(layout, "C"), (9, 4, 12))

    def test_an_empty_base_takes_one_byte(self):
        layout = laid(own("A"), own("B"), own("C", "A B", "c1"))
        self.assertEqual(layout.places("C"), [("C", 0), ("A", 0), ("B", 1)])
        self.assertEqual(layout.field_places("C"), [("C", "c", 2)])
        self.assertEqual(sizes(layout, "C"), (3, 1, 3))

    def test_near_sizes_are_packed_without_rounding(self):
        layout = laid(own("A", "", "a8 b1"), own("B", "A", "c1"))
        self.assertEqual(layout.field_places("B"), [("A", "a", 0), ("A", "b", 8), ("B", "c", 9)])
        self.assertEqual(sizes(layout, "B"), (10, 8, 16))

    def test_own_pointer_ahead_of_bases_without_one(self):
        layout = laid(own("A", "", "a1"), own("B", "", "b4"), own("C", "A B", "c1", ["f"]))
        self.assertEqual(layout.places("C"), [("C", 0), ("A", 8), ("B", 12)])
        self.assertEqual(layout.field_places("C"), [("A", "a", 8), ("B", "b", 12), ("C", "c", 16)])
        self.assertEqual(layout.pointers("C"), [("C", 0)])
        self.assertEqual(sizes(layout, "C"), (17, 8, 24))

    def test_the_first_open_base_is_primary(self):
        layout = laid(own("P", "", "p2"), own("Q", "", "q1", ["f"]), own("R", "", "r1", ["g"]),
                      own("X", "P Q R", "x1"))
        self.assertEqual(layout.places("X"), [("X", 0), ("P", 10), ("Q", 0), ("R", 16)])
        self.assertEqual(layout.field_places("X"), [("P", "p", 10), ("Q", "q", 8), ("R", "r", 24), ("X", "x", 25)])
        self.assertEqual(layout.pointers("X"), [("X", 0), ("R", 16)])
        self.assertEqual(sizes(layout, "X"), (26, 8, 32))

    def test_pointers_of_the_primary_base_but_that_at_0(self):
        layout = laid(own("P", methods=["p"]), own("Q", methods=["q"]), own("R", "P Q"), own("S", methods=["s"]),
                      own("X", "S R"), own("Y", "R S"))
        self.assertEqual(layout.pointers("R"), [("R", 0), ("Q", 8)])
        self.assertEqual(layout.pointers("X"), [("X", 0), ("R", 8), ("Q", 16)])
        self.assertEqual(layout.pointers("Y"), [("Y", 0), ("Q", 8), ("S", 16)])

    def test_alignment_is_the_greatest_one(self):
        layout = laid(own("A", "", "a2"), own("B", "", "b4"), own("C", "A", "c1"), own("D", "A B"),
                      own("E", "D", "e8"), own("F", "C", "", ["f"]))
        self.assertEqual([layout.alignment(name) for name in "ABCDEF"], [2, 4, 2, 4, 8, 8])

    def test_shared_bases_do_not_count(self):
        layout = laid(own("A", "", "a8 b8"), own("B", "+A"))
        self.assertEqual((layout.near_size("B"), layout.alignment("B")), (8, 8))


class WholeObjects(unittest.TestCase):
    def test_each_at_the_next_multiple_of_8(self):
        layout = laid(own("A", "", "a1"), own("B", "", "b1"), own("C", "+A +B", "c1"))
        self.assertEqual(layout.places("C"), [("C", 0), ("A", 16), ("B", 24)])
        self.assertEqual(sizes(layout, "C"), (9, 8, 32))

    def test_order_of_the_walk(self):
        layout = laid(own("A", "", "a8 b8"), own("B", "+A"), own("C", "", "c1"), own("D", "+C +B"))
        self.assertEqual(layout.places("D"), [("D", 0), ("C", 8), ("A", 16), ("B", 32)])
        self.assertEqual(layout.whole_size("D"), 40)

    def test_near_parts_of_shared_ancestors_with_their_plain_bases(self):
        layout = laid(own("A", "", "a4"), own("B", "A", "b4", ["f"]), own("C", "+B", "c1"))
        self.assertEqual(layout.places("C"), [("C", 0), ("B", 16), ("A", 24)])
        self.assertEqual(layout.pointers("C"), [("C", 0), ("B", 16)])
        self.assertEqual(layout.field_places("C"), [("C", "c", 8)])
        self.assertEqual(layout.whole_size("C"), 32)

    def test_a_base_lies_elsewhere_in_an_object_of_its_own(self):
        layout = laid(own("A", "", "a1"), own("B", "+A"), own("C", "B", "c8 d1"))
        self.assertEqual(layout.places("B"), [("B", 0), ("A", 8)])
        self.assertEqual(layout.places("C"), [("C", 0), ("B", 0), ("A", 24)])

    def test_shared_ancestors_lie_once(self):
        layout = laid(own("A", "", "a8"), own("B", "+A"), own("C", "+A"), own("D", "+B +C"), own("E", "D +B"))
        self.assertEqual(layout.places("E"), [("E", 0), ("D", 0), ("A", 8), ("B", 16), ("C", 24)])
        self.assertEqual(layout.pointers("E"), [("E", 0), ("B", 16), ("C", 24)])

    def test_rounded_to_the_alignment_without_shared_ancestors(self):
        self.assertEqual(laid(own("A", "", "a2 b1")).whole_size("A"), 4)
        self.assertEqual(laid(own("A", "", "a1")).whole_size("A"), 1)
        self.assertEqual(laid(own("A", "", "a1"), own("B", "+A")).whole_size("B"), 16)


class Reaches(unittest.TestCase):
    def setUp(self):
        self.layout = laid(own("Top", "", "t4"), own("Mid", "Top", "m1"), own("Low", "+Mid", "l1"),
                           own("Oth", "", "o1"), own("Bot", "+Oth Low", "b1"))

    def test_places_and_ways(self):
        self.assertEqual(self.layout.ways("Bot"), ["Mid", "Oth"])
        self.assertEqual(self.layout.reach("Bot", "Low"), ("place", 0))
        self.assertEqual(self.layout.reach("Bot", "Mid"), ("way", -3, 0))
        self.assertEqual(self.layout.reach("Bot", "Top"), ("way", -3, 0))
        self.assertEqual(self.layout.reach("Bot", "Oth"), ("way", -4, 0))
        self.assertEqual(self.layout.reach("Mid", "Top"), ("place", 0))
        self.assertEqual(self.layout.reach("Low", "Top"), ("way", -3, 0))

    def test_fields(self):
        self.assertEqual(self.layout.field_reach("Bot", "Mid", "m"), ("way", -3, 4))
        self.assertEqual(self.layout.field_reach("Bot", "Top", "t"), ("way", -3, 0))
        self.assertEqual(self.layout.field_reach("Bot", "Bot", "b"), ("place", 9))
        self.assertEqual(self.layout.field_reach("Bot", "Low", "l"), ("place", 8))

    def test_a_place_within_a_shared_ancestor(self):
        layout = laid(own("A", "", "a1"), own("B", "", "b8"), own("C", "B A", "c1"), own("D", "+C"))
        self.assertEqual(layout.reach("D", "A"), ("way", -3, 8))
        self.assertEqual(layout.field_reach("D", "A", "a"), ("way", -3, 8))
        self.assertEqual(layout.field_reach("D", "C", "c"), ("way", -3, 9))

    def test_no_class(self):
        layout = Layout(diamond())
        for name in wrong_names():
            for call in (layout.near_size, layout.alignment, layout.whole_size, layout.places, layout.field_places,
                         layout.pointers, layout.entries, layout.ways, layout.tables):
                with self.assertRaises(NoClass) as caught:
                    call(name)
                self.assertIs(caught.exception.name, name)
            for args in ((name, "A"), (name, None)):
                self.assertRaises(NoClass, layout.reach, *args)
                self.assertRaises(NoClass, layout.field_reach, *args, None)
            with self.assertRaises(NoClass) as caught:
                layout.reach("D", name)
            self.assertIs(caught.exception.name, name)
            with self.assertRaises(NoClass) as caught:
                layout.field_reach("D", name, None)
            self.assertIs(caught.exception.name, name)

    def test_the_first_error_that_is_stated(self):
        layout = Layout(diamond())
        self.assertEqual(raised(layout.reach, "Q", "R"), ("NoClass", "Q"))
        self.assertEqual(raised(layout.field_reach, "Q", "R", "s"), ("NoClass", "Q"))
        self.assertEqual(raised(layout.field_reach, "A", "R", "s"), ("NoClass", "R"))

    def test_classes_that_are_no_ancestors(self):
        layout = Layout(diamond())
        for name, other in (("A", "B"), ("A", "D"), ("B", "C"), ("C", "D")):
            self.assertEqual(raised(layout.reach, name, other), ("NoClass", other))
            self.assertEqual(raised(layout.field_reach, name, other, "a"), ("NoClass", other))

    def test_no_member(self):
        layout = Layout(diamond())
        for field in strangers() + oddities() + ["", "b", "f", "z", "A", 0, True, ("a",), Field("a", "int4")]:
            with self.assertRaises(NoMember) as caught:
                layout.field_reach("D", "A", field)
            self.assertIs(caught.exception.name, field)
        self.assertEqual(raised(layout.field_reach, "D", "D", "b"), ("NoMember", "b"))


class FromTheBasesAlone(unittest.TestCase):
    """Point 4, LAYOUT."""

    ASKED = ["near_size", "alignment", "whole_size", "places", "field_places", "pointers", "entries", "ways", "tables"]

    def numbers(self, classes, name):
        layout = laid(*classes)
        return [getattr(layout, ask)(name) for ask in self.ASKED]

    def test_other_classes_do_not_matter(self):
        classes = diamond_classes()
        more = [own("X", methods=["x"]), own("Y", "D", "y8")]
        for item in classes:
            mixed = [more[0]] + classes + [more[1]]
            self.assertEqual(self.numbers(mixed, item.name), self.numbers(classes, item.name))

    def test_order_of_the_library_does_not_matter(self):
        a, b, c, d = diamond_classes()
        for item in (a, b, c, d):
            self.assertEqual(self.numbers([a, c, b, d], item.name), self.numbers([a, b, c, d], item.name))

    def test_another_base_with_the_same_numbers(self):
        _, b, c, d = diamond_classes()
        other = Class("A", (), (Field("a", "int2"), Field("q", "int2")), (opened("f"),))
        for name in "BCD":
            self.assertEqual(self.numbers([other, b, c, d], name), self.numbers(diamond_classes(), name))

    def test_a_greater_base_moves_what_lies_behind_it(self):
        old = laid(own("A", "", "a8"), own("B", "A", "b1"), own("C", "B", "c1"))
        new = laid(own("A", "", "a8 z1"), own("B", "A", "b1"), own("C", "B", "c1"))
        self.assertEqual(old.field_reach("C", "C", "c"), ("place", 9))
        self.assertEqual(new.field_reach("C", "C", "c"), ("place", 10))


class Equality(unittest.TestCase):
    def test_equal(self):
        self.assertTrue(Layout(diamond()) == Layout(diamond()))
        self.assertFalse(Layout(diamond()) != Layout(diamond()))

    def test_classes_in_any_order(self):
        a, b, c, d = diamond_classes()
        self.assertTrue(laid(a, b, c, d) == laid(a, c, b, d))
        self.assertTrue(laid(own("A", "", "a1"), own("B")) == laid(own("B"), own("A", "", "a1")))
        self.assertFalse(laid(own("A", "", "a1"), own("B")) == laid(own("A"), own("B", "", "a1")))

    def test_the_classes_count(self):
        self.assertFalse(laid(own("A")) == laid(own("B")))
        self.assertFalse(laid(own("A")) == laid(own("A"), own("B")))
        self.assertFalse(laid() == laid(own("A")))
        self.assertTrue(laid() == laid())

    def test_only_the_numbers_and_tables_count(self):
        old = laid(own("A", "", "a4"))
        self.assertTrue(old == laid(Class("A", (), (Field("a", "int4", 0, False),), (plain("p"),), True, True)))
        self.assertFalse(old == laid(own("A", "", "b4")))
        self.assertFalse(old == laid(own("A", "", "a2")))
        self.assertFalse(old == laid(own("A", "", "a4", ["f"])))

    def test_each_number_and_table_counts(self):
        top = [own("A", methods=["f"]), own("B", methods=["g"])]
        pairs = [
            ([own("A", "", "a1 b4")], [own("A", "", "b1 a4")]),
            ([own("A", "", "a8")], [Class("A", (), (Field("a", "int4"), Field("b", "int4")))]),
            (top + [own("C", "A B")], top + [own("C", "B A")]),
            (top + [own("C", "A +B")], top + [own("C", "+A B")]),
            (top + [own("C", "+A +B")], top + [own("C", "+B +A")]),
            (top + [own("C", "A")], top + [own("C", "A", methods=["f"])]),
            (top + [own("C", "A", methods=["h", "i"])], top + [own("C", "A", methods=["i", "h"])]),
            ([own("A", methods=["f"])], [own("A", methods=["g"])]),
        ]
        for old, new in pairs:
            self.assertFalse(laid(*old) == laid(*new), [item.__dict__ for item in new])

    def test_nothing_of_another_kind_is_equal(self):
        for other in strangers() + [diamond(), diamond_classes(), 0, "A", ()]:
            self.assertIs(Layout(diamond()) == other, False)
            self.assertIs(Layout(diamond()) != other, True)


if __name__ == "__main__":
    unittest.main()
