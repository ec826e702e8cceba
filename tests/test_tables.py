"""Points 17 to 20: shapes, numbers, tables, what is found by them alone, and check_tables."""

import unittest

from oldclients.errors import NoClass, NoMember, NoTables
from oldclients.layouts import Layout, check_tables
from oldclients.libraries import Library
from tests.helpers import bare, diamond, oddities, opened, own, plain, raised, strangers, wrong_names

DIAMOND_TABLES = [
    ("D", 0, (("A", 40),), ()),
    ("C", 16, (("A", 24),), ((("C", "g"), "D", -16),)),
    ("A", 40, (), ((("A", "f"), "B", -40),)),
]


def laid(*classes):
    """Return the layout of a library of these classes."""
    return Layout(Library(list(classes)))


def deep_library():
    """Return a library with primary bases several deep, other open bases and several ways."""
    return Library([
        own("A", "", "a4", ["f"]), own("B", "A", "b4", ["g", "h"]), own("S", "", "s1", ["u"]),
        own("T", "+S", "t8"), own("C", "+S B", "c1", ["h", "k"]), own("D", "T C", "d2", ["f", "u"]),
    ])


def deep():
    """Return the layout of it."""
    return Layout(deep_library())


def wide_library():
    """Return a library with shared ancestors that have plain bases and shared ancestors of their own."""
    return Library([
        own("R", "", "r1", ["f"]), own("P", "", "p2"), own("Q", "P +R", "q4", ["g"]), own("V", "+Q", "v1", ["f"]),
        own("W", "+R +Q", "w8", ["g"]), own("X", "W V", "x2", ["h"]), own("Y", "", "y1", ["f"]),
        own("Z", "Y +X", "z1", ["f", "g", "h"]),
    ])


class Shapes(unittest.TestCase):
    def test_diamond(self):
        layout = Layout(diamond())
        self.assertEqual([layout.entries(name) for name in "ABCD"], [[("A", "f")], [], [("C", "g")], []])
        self.assertEqual([layout.ways(name) for name in "ABCD"], [[], ["A"], ["A"], ["A"]])
        self.assertEqual(layout.method_number("C", "g"), 0)

    def test_first_those_of_the_primary_base(self):
        layout = deep()
        self.assertEqual(layout.entries("A"), [("A", "f")])
        self.assertEqual(layout.entries("B"), [("A", "f"), ("B", "g"), ("B", "h")])
        self.assertEqual(layout.entries("C"), [("A", "f"), ("B", "g"), ("B", "h"), ("C", "k")])
        self.assertEqual(layout.entries("T"), [])
        self.assertEqual(layout.entries("D"), [])

    def test_only_what_is_introduced_in_order(self):
        layout = laid(own("A", methods=["z", plain("m"), bare("b"), opened("a", shown=False)]),
                      own("B", "A", methods=["y", "a", "x"]))
        self.assertEqual(layout.entries("B"), [("A", "z"), ("A", "b"), ("A", "a"), ("B", "y"), ("B", "x")])

    def test_no_methods_of_other_bases(self):
        layout = laid(own("A", methods=["f"]), own("B", methods=["g"]), own("C", "A B", methods=["h"]))
        self.assertEqual(layout.entries("C"), [("A", "f"), ("C", "h")])

    def test_one_name_introduced_by_another_base(self):
        layout = laid(own("A", methods=["f"]), own("B", methods=["f"]), own("C", "B A", methods=["f"]))
        self.assertEqual(layout.entries("C"), [("B", "f")])

    def test_no_primary_base_though_there_are_ancestors(self):
        layout = laid(own("A", methods=["f"]), own("P", "", "p1"), own("B", "P +A", methods=["g"]))
        self.assertEqual(layout.entries("B"), [("B", "g")])
        self.assertEqual(layout.ways("B"), ["A"])

    def test_ways_of_the_primary_base_first(self):
        layout = laid(own("R"), own("S"), own("T"), own("P", "+R", methods=["p"]), own("Q", "+S", methods=["q"]),
                      own("X", "+T Q P"), own("Y", "P Q +T"))
        self.assertEqual(layout.ways("X"), ["S", "T", "R"])
        self.assertEqual(layout.ways("Y"), ["R", "S", "T"])
        self.assertEqual(deep().ways("D"), ["S"])

    def test_the_first_way_is_not_the_first_of_the_walk(self):
        layout = laid(own("R", "", "r1"), own("S", "", "s1"), own("P", "+S"), own("X", "+R P"))
        self.assertEqual(layout.ways("X"), ["S", "R"])
        self.assertEqual(layout.places("X"), [("X", 0), ("P", 0), ("R", 8), ("S", 16)])
        self.assertEqual(layout.tables("X"), [("X", 0, (("S", 16), ("R", 8)), ())])
        self.assertEqual(layout.reach("X", "S"), ("way", -3, 0))
        self.assertEqual(layout.reach("X", "R"), ("way", -4, 0))

    def test_classes_that_are_not_open(self):
        layout = laid(own("A", "", "a1", [plain("p")]), own("B", "A", "b1"))
        for name in "AB":
            self.assertEqual(layout.entries(name), [])
            self.assertEqual(layout.ways(name), [])
            self.assertEqual(layout.tables(name), [])

    def test_method_numbers(self):
        layout = deep()
        numbers = [layout.method_number(*pair) for pair in (("A", "f"), ("B", "g"), ("B", "h"), ("C", "k"), ("S", "u"))]
        self.assertEqual(numbers, [0, 1, 2, 3, 0])
        two = laid(own("A", methods=[plain("p"), "f", "g"]))
        self.assertEqual([two.method_number("A", name) for name in "fg"], [0, 1])

    def test_errors_of_method_number(self):
        layout = deep()
        for name in wrong_names():
            with self.assertRaises(NoClass) as caught:
                layout.method_number(name, "f")
            self.assertIs(caught.exception.name, name)
            self.assertRaises(NoClass, layout.method_number, name, name)
        for method in strangers() + oddities() + ["", "f", "F", "a", "z", "u", 0, 1, -1, True, ("B", "g"), opened("g")]:
            with self.assertRaises(NoMember) as caught:
                layout.method_number("B", method)
            self.assertIs(caught.exception.name, method)
        self.assertEqual(raised(layout.method_number, "C", "h"), ("NoMember", "h"))
        self.assertEqual(raised(layout.method_number, "D", "u"), ("NoMember", "u"))
        self.assertEqual(raised(laid(own("A", methods=[plain("p")])).method_number, "A", "p"), ("NoMember", "p"))


class Tables(unittest.TestCase):
    def test_diamond(self):
        layout = Layout(diamond())
        self.assertEqual(layout.tables("D"), DIAMOND_TABLES)
        self.assertEqual(layout.tables("D")[2], ("A", 40, (), ((("A", "f"), "B", -40),)))
        self.assertEqual(layout.tables("A"), [("A", 0, (), ((("A", "f"), "A", 0),))])
        self.assertEqual(layout.tables("B"), [("B", 0, (("A", 16),), ()), ("A", 16, (), ((("A", "f"), "B", -16),))])
        self.assertEqual(layout.tables("C"), [("C", 0, (("A", 16),), ((("C", "g"), "C", 0),)),
                                              ("A", 16, (), ((("A", "f"), "A", 0),))])

    def test_deep(self):
        layout = deep()
        self.assertEqual(layout.places("D"), [("D", 0), ("T", 0), ("C", 16), ("B", 16), ("A", 16), ("S", 40)])
        self.assertEqual(layout.tables("D"), [
            ("D", 0, (("S", 40),), ()),
            ("C", 16, (("S", 24),), ((("A", "f"), "D", -16), (("B", "g"), "B", 0), (("B", "h"), "C", 0),
                                     (("C", "k"), "C", 0))),
            ("S", 40, (), ((("S", "u"), "D", -40),)),
        ])

    def test_a_last_override_in_another_near_part(self):
        layout = laid(own("A", methods=["f"]), own("B", "+A", "b8"), own("C", "+A", "c8", ["f"]), own("D", "B +C"))
        self.assertEqual(layout.places("D"), [("D", 0), ("B", 0), ("A", 16), ("C", 24)])
        self.assertEqual(layout.tables("D"), [
            ("D", 0, (("A", 16), ("C", 24)), ()),
            ("A", 16, (), ((("A", "f"), "C", 8),)),
            ("C", 24, (("A", -8),), ()),
        ])

    def test_bare_classes_have_tables(self):
        layout = laid(own("A", methods=[bare("f")]), own("B", "A", methods=[bare("f")]))
        self.assertEqual(layout.tables("B"), [("B", 0, (), ((("A", "f"), "B", 0),))])

    def test_kinds_of_values(self):
        for table in deep().tables("D"):
            self.assertIs(type(table), tuple)
            name, place, ways, methods = table
            self.assertEqual([type(value) for value in table], [str, int, tuple, tuple])
            for way in ways:
                self.assertEqual((type(way), len(way)), (tuple, 2))
            for entry in methods:
                self.assertEqual((type(entry), len(entry), type(entry[0])), (tuple, 3, tuple))


class Followed(unittest.TestCase):
    """Point 19: what calls and conversions find by the tables alone, in whole objects."""

    def setUp(self):
        self.libraries = [diamond(), deep_library(), wide_library()]

    def table_at(self, layout, name, place):
        tables = {at: (ways, methods) for _, at, ways, methods in layout.tables(name)}
        return tables[place]

    def follow(self, layout, name, place, way):
        """Return the place to which a way leads from a place in a whole object."""
        if way[0] == "place":
            return place + way[1]
        _, number, more = way
        ways, _ = self.table_at(layout, name, place)
        return place + ways[-3 - number][1] + more

    def test_conversions_up(self):
        for library in self.libraries:
            layout = Layout(library)
            for name in library.names():
                places = dict(layout.places(name))
                for part in places:
                    for ancestor in library.ancestors(part) + [part]:
                        found = self.follow(layout, name, places[part], layout.reach(part, ancestor))
                        self.assertEqual(found, places[ancestor], (name, part, ancestor))

    def test_fields(self):
        for library in self.libraries:
            layout = Layout(library)
            for name in library.names():
                places = dict(layout.places(name))
                for part in places:
                    for owner in library.ancestors(part) + [part]:
                        own_places = {field: at for known, field, at in layout.field_places(owner) if known == owner}
                        for field, at in own_places.items():
                            found = self.follow(layout, name, places[part], layout.field_reach(part, owner, field))
                            self.assertEqual(found, places[owner] + at)

    def test_calls(self):
        for library in self.libraries:
            layout = Layout(library)
            for name in library.names():
                places = dict(layout.places(name))
                for part in places:
                    for introducer, method in library.introducers(part):
                        here = self.follow(layout, name, places[part], layout.reach(part, introducer))
                        _, methods = self.table_at(layout, name, here)
                        thing, last, shift = methods[layout.method_number(introducer, method)]
                        self.assertEqual(thing, (introducer, method))
                        self.assertEqual(last, library.last_override(name, introducer, method))
                        self.assertEqual(here + shift, places[last])

    def test_from_any_pointer_to_the_beginning(self):
        for library in self.libraries:
            layout = Layout(library)
            for name in library.names():
                rows = [(owner, at) for owner, at, _, _ in layout.tables(name)]
                self.assertEqual(rows, layout.pointers(name))
                places = dict(layout.places(name))
                for owner, at in rows:
                    self.assertEqual(places[owner], at)
                self.assertEqual(len({at for _, at in rows}), len(rows))
                opened_places = {places[part] for part in places if library.is_open(part)}
                self.assertEqual({at for _, at in rows}, opened_places)


class Checks(unittest.TestCase):
    def setUp(self):
        self.layout = Layout(diamond())

    def found(self, tables, name="D"):
        error = raised(check_tables, self.layout, name, tables)
        return error and error[1]

    def test_right_ones(self):
        for name in "ABCD":
            self.assertIsNone(check_tables(self.layout, name, self.layout.tables(name)))
        self.assertIsNone(self.found(list(DIAMOND_TABLES)))
        self.assertIsNone(check_tables(laid(own("A")), "A", []))

    def test_no_class_goes_first(self):
        for name in wrong_names():
            with self.assertRaises(NoClass) as caught:
                check_tables(self.layout, name, None)
            self.assertIs(caught.exception.name, name)

    def test_no_list(self):
        for value in [value for value in strangers() if not isinstance(value, list)] + [tuple(DIAMOND_TABLES), 0, "D"]:
            with self.assertRaises(NoTables) as caught:
                check_tables(self.layout, "D", value)
            self.assertEqual(caught.exception.index, -1)
        self.assertEqual(raised(check_tables, laid(own("A")), "A", ()), ("NoTables", -1))

    def test_missing_and_one_too_many(self):
        for size in range(3):
            self.assertEqual(self.found(DIAMOND_TABLES[:size]), size)
        self.assertEqual(self.found(DIAMOND_TABLES + [DIAMOND_TABLES[0]]), 3)
        self.assertEqual(self.found(DIAMOND_TABLES + [None, None]), 3)
        self.assertEqual(raised(check_tables, laid(own("A")), "A", [()]), ("NoTables", 0))
        self.assertEqual(raised(check_tables, laid(own("A")), "A", [None, None]), ("NoTables", 0))

    def test_the_first_that_differs(self):
        for index in range(3):
            tables = list(DIAMOND_TABLES)
            for at in range(index, 3):
                tables[at] = None
            self.assertEqual(self.found(tables), index)
            self.assertEqual(self.found(tables[:index + 1]), index)
            self.assertEqual(self.found(tables + [None]), index)
        self.assertEqual(self.found([DIAMOND_TABLES[0], DIAMOND_TABLES[2], DIAMOND_TABLES[1]]), 1)

    def test_other_kinds_of_tables(self):
        longer = DIAMOND_TABLES[1] + ((),)
        for value in strangers() + oddities() + [7, "", "DDDD", True, (), ("C",), list(DIAMOND_TABLES[1]), longer]:
            self.assertEqual(self.found([DIAMOND_TABLES[0], value, DIAMOND_TABLES[2]]), 1, repr(value))

    def test_each_thing_that_differs(self):
        wrong = [
            ("B", 16, (("A", 24),), ((("C", "g"), "D", -16),)),
            ("C", 17, (("A", 24),), ((("C", "g"), "D", -16),)),
            ("C", "16", (("A", 24),), ((("C", "g"), "D", -16),)),
            ("C", 16, (), ((("C", "g"), "D", -16),)),
            ("C", 16, (("B", 24),), ((("C", "g"), "D", -16),)),
            ("C", 16, (("A", 25),), ((("C", "g"), "D", -16),)),
            ("C", 16, (("A", 24), ("A", 24)), ((("C", "g"), "D", -16),)),
            ("C", 16, (("A", 24),), ()),
            ("C", 16, (("A", 24),), ((("A", "g"), "D", -16),)),
            ("C", 16, (("A", 24),), ((("C", "f"), "D", -16),)),
            ("C", 16, (("A", 24),), ((("C", "g"), "C", -16),)),
            ("C", 16, (("A", 24),), ((("C", "g"), "D", 16),)),
            ("C", 16, (("A", 24),), ((("C", "g"), "D", -16), (("C", "g"), "D", -16))),
            ["C", 16, (("A", 24),), ((("C", "g"), "D", -16),)],
            ("C", 16, [("A", 24)], ((("C", "g"), "D", -16),)),
            ("C", 16, (["A", 24],), ((("C", "g"), "D", -16),)),
            ("C", 16, (("A", 24),), [(("C", "g"), "D", -16)]),
            ("C", 16, (("A", 24),), ([("C", "g"), "D", -16],)),
            ("C", 16, (("A", 24),), ((["C", "g"], "D", -16),)),
            ("C", 16, (("A", 24),), ((("C", "g"), "D"),)),
            ("C", 16, (("A", 24),), ((("C", "g"), "D", -16, 0),)),
            ("C", 16, ("A", 24), ((("C", "g"), "D", -16),)),
            ("C", 16),
        ]
        for value in strangers() + oddities():
            wrong += [(value,) + DIAMOND_TABLES[1][1:], DIAMOND_TABLES[1][:3] + (value,),
                      ("C", value) + DIAMOND_TABLES[1][2:], ("C", 16, value, DIAMOND_TABLES[1][3]),
                      ("C", 16, ((value, 24),), DIAMOND_TABLES[1][3]), ("C", 16, (("A", value),), DIAMOND_TABLES[1][3]),
                      ("C", 16, (("A", 24),), ((value, "D", -16),)),
                      ("C", 16, (("A", 24),), ((("C", value), "D", -16),)),
                      ("C", 16, (("A", 24),), ((("C", "g"), value, -16),)),
                      ("C", 16, (("A", 24),), ((("C", "g"), "D", value),))]
        for table in wrong:
            self.assertEqual(self.found([DIAMOND_TABLES[0], table, DIAMOND_TABLES[2]]), 1, repr(table))

    def test_bools_are_no_integers(self):
        self.assertEqual(self.found([("A", False, (), ((("A", "f"), "A", 0),))], "A"), 0)
        self.assertEqual(self.found([("A", 0, (), ((("A", "f"), "A", False),))], "A"), 0)
        self.assertIsNone(self.found([("A", 0, (), ((("A", "f"), "A", 0),))], "A"))

    def test_tables_of_another_class(self):
        for name in "ABCD":
            for other in "ABCD":
                error = self.found(self.layout.tables(other), name)
                self.assertEqual(error is None, name == other)


if __name__ == "__main__":
    unittest.main()
