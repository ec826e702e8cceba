"""Point 8: what a Library is asked for, and point 2 as far as it is about libraries."""

import unittest

from oldclients.declared import Class, Field
from oldclients.errors import NoClass
from oldclients.layouts import Layout, check_tables
from oldclients.libraries import Library
from tests.helpers import diamond, diamond_classes, own, raised, routine, strangers, wrong_names


class Asked(unittest.TestCase):
    def setUp(self):
        self.classes = diamond_classes()
        self.routines = [routine("r"), routine("q")]
        self.library = Library(self.classes, self.routines)

    def test_names_and_routines(self):
        self.assertEqual(self.library.names(), ["A", "B", "C", "D"])
        self.assertEqual(self.library.routines(), self.routines)
        self.assertIs(type(Library([], tuple(self.routines)).routines()), list)
        self.assertEqual(Library([]).names(), [])
        self.assertEqual(Library([]).routines(), [])
        self.assertEqual(Library([own("Z"), own("A")]).names(), ["Z", "A"])

    def test_item_and_index(self):
        for item in self.classes:
            self.assertEqual(self.library.item(item.name), item)
            self.assertEqual(self.library[item.name], item)
            self.assertEqual(self.library.item(name=item.name), item)

    def test_no_class(self):
        for name in wrong_names():
            for ask in (self.library.item, self.library.__getitem__):
                with self.assertRaises(NoClass) as caught:
                    ask(name)
                self.assertIs(caught.exception.name, name)
        with self.assertRaises(NoClass):
            self.library[0]

    def test_in(self):
        for name in "ABCD":
            self.assertIs(name in self.library, True)
        for name in wrong_names() + self.classes:
            self.assertIs(name in self.library, False, repr(name))
        self.assertNotIn("A", Library([]))

    def test_it_cannot_be_gone_through(self):
        for library in (self.library, Library([])):
            for go in (iter, list, tuple, sorted, enumerate, max, dict):
                with self.assertRaises(TypeError):
                    go(library)
            with self.assertRaises(TypeError):
                for _ in library:
                    pass
            with self.assertRaises(TypeError):
                [*library]


class Equality(unittest.TestCase):
    def test_equal(self):
        self.assertTrue(diamond() == diamond())
        self.assertFalse(diamond() != diamond())
        self.assertTrue(Library([], [routine()]) == Library([], (routine(),)))
        self.assertTrue(Library([]) == Library([], []))

    def test_classes_count_in_order(self):
        self.assertFalse(Library([own("A"), own("B")]) == Library([own("B"), own("A")]))
        self.assertFalse(Library([own("A"), own("B")]) == Library([own("A")]))
        self.assertFalse(Library([own("A")]) == Library([own("A", closed=True)]))
        self.assertFalse(Library([own("A", fields="a1")]) == Library([Class("A", (), (Field("a", "int1", 1),))]))

    def test_routines_count_in_order(self):
        first, second = routine("r"), routine("s")
        self.assertFalse(Library([], [first, second]) == Library([], [second, first]))
        self.assertFalse(Library([], [first]) == Library([]))
        self.assertFalse(Library([], [first]) == Library([], [routine("r", result="int1")]))

    def test_nothing_of_another_kind_is_equal(self):
        for other in strangers() + diamond_classes() + [diamond_classes(), Layout(diamond()), 4, "A", ()]:
            self.assertIs(diamond() == other, False)
            self.assertIs(diamond() != other, True)


LISTS = {"names": (), "routines": (), "ancestors": ("D",), "walk": ("D",), "near": ("D",), "introducers": ("D",)}
LAYOUT_LISTS = ["places", "field_places", "pointers", "entries", "ways", "tables"]


class General(unittest.TestCase):
    """Point 2."""

    def test_arguments_are_not_changed(self):
        classes, routines = diamond_classes(), [routine("r")]
        library = Library(classes, routines)
        layout = Layout(library)
        for name in "ABCD":
            tables = layout.tables(name)
            check_tables(layout, name, tables)
            self.assertEqual(tables, layout.tables(name))
        self.assertEqual(classes, diamond_classes())
        self.assertEqual(routines, [routine("r")])
        self.assertEqual(library, Library(diamond_classes(), [routine("r")]))

    def test_later_changes_to_arguments_have_no_effect(self):
        classes, routines = diamond_classes(), [routine("r")]
        library = Library(classes, routines)
        layout = Layout(library)
        classes.pop()
        classes.append(own("X"))
        classes.reverse()
        routines.clear()
        self.assertEqual(library, Library(diamond_classes(), [routine("r")]))
        self.assertEqual(library.names(), ["A", "B", "C", "D"])
        self.assertEqual(library.routines(), [routine("r")])
        self.assertNotIn("X", library)
        self.assertEqual(layout, Layout(diamond()))

    def test_returned_lists_are_new(self):
        library = Library(diamond_classes(), [routine("r")])
        layout = Layout(library)
        rows = [(getattr(library, name), args) for name, args in LISTS.items()]
        rows += [(getattr(layout, name), (of,)) for name in LAYOUT_LISTS for of in "ACD"]
        for call, args in rows:
            first, second = call(*args), call(*args)
            self.assertIs(type(first), list)
            self.assertIsNot(first, second)
            first.append("more")
            first.reverse()
            self.assertEqual(call(*args), second, call)
        self.assertEqual(library, Library(diamond_classes(), [routine("r")]))
        self.assertEqual(layout, Layout(library))

    def test_equal_arguments_give_equal_results(self):
        library, other = diamond(), diamond()
        for name, args in LISTS.items():
            self.assertEqual(getattr(library, name)(*args), getattr(other, name)(*args))
        for name in "ABCD":
            self.assertEqual(Layout(library).tables(name), Layout(other).tables(name))

    def test_arguments_by_name_in_any_order(self):
        library = Library(routines=(routine("r"),), classes=diamond_classes())
        self.assertEqual(library.names(), ["A", "B", "C", "D"])
        for call in (library.ancestors, library.walk, library.near, library.introducers, library.is_open,
                     library.is_bare, library.item):
            self.assertEqual(call(name="D"), call("D"))
        self.assertEqual(library.last_override(method="f", introducer="A", name="D"), "B")
        self.assertEqual(library.found(member="a", name="D"), ("field", "A", "a"))
        self.assertEqual(library.found(hidden=True, member="a", name="D"), ("field", "A", "a"))
        layout = Layout(library=library)
        for call in (layout.near_size, layout.alignment, layout.whole_size, layout.places, layout.field_places,
                     layout.pointers, layout.entries, layout.ways, layout.tables):
            self.assertEqual(call(name="D"), call("D"))
        self.assertEqual(layout.reach(ancestor="C", name="D"), ("place", 16))
        self.assertEqual(layout.field_reach(field="a", owner="A", name="D"), ("way", -3, 8))
        self.assertEqual(layout.method_number(method="g", introducer="C"), 0)
        self.assertIsNone(check_tables(tables=layout.tables("D"), name="D", layout=layout))

    def test_hidden_is_keyword_only(self):
        with self.assertRaises(TypeError):
            diamond().found("D", "a", True)

    def test_no_bools_for_integers(self):
        self.assertEqual(raised(Library, [Class("A", (), (Field("a", "int1", True),))]), ("NoLibrary", 0, "fields", 0))
        self.assertEqual(raised(Library, [own("A", lent=0)]), ("NoLibrary", 0, "marks", -1))


if __name__ == "__main__":
    unittest.main()
