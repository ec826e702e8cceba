"""Points 7 and 9 to 12: ancestors, walks, near parts, introducers, last overrides, and what names mean."""

import unittest

from oldclients.declared import Class, Field
from oldclients.errors import NoClass, NoMember
from oldclients.libraries import Library
from tests.helpers import bare, diamond, oddities, opened, own, plain, raised, strangers, wrong_names

ASKED = ["ancestors", "walk", "near", "is_open", "introducers", "is_bare"]


def several_ways():
    """Return a library with plain and shared bases, of which some are ancestors by several ways."""
    return Library([
        own("Top", "", "t1"),
        own("Side", "", "s1"),
        own("Left", "+Top"),
        own("Right", "+Top Side"),
        own("Deep", "+Left"),
        own("Join", "+Right Deep"),
        own("Last", "Join +Left"),
        own("Alone"),
    ])


class Ancestors(unittest.TestCase):
    def test_diamond(self):
        library = diamond()
        self.assertEqual([library.ancestors(name) for name in "ABCD"], [[], ["A"], ["A"], ["A", "B", "C"]])

    def test_order_of_the_library(self):
        library = several_ways()
        self.assertEqual(library.ancestors("Join"), ["Top", "Side", "Left", "Right", "Deep"])
        self.assertEqual(library.ancestors("Last"), ["Top", "Side", "Left", "Right", "Deep", "Join"])
        self.assertEqual(library.ancestors("Alone"), [])
        backwards = Library([own("B"), own("A"), own("C", "A B")])
        self.assertEqual(backwards.ancestors("C"), ["B", "A"])

    def test_no_class(self):
        library = diamond()
        for ask in ASKED:
            for name in wrong_names():
                with self.assertRaises(NoClass) as caught:
                    getattr(library, ask)(name)
                self.assertIs(caught.exception.name, name)


class Walks(unittest.TestCase):
    def test_diamond(self):
        library = diamond()
        self.assertEqual([library.walk(name) for name in "ABCD"], [[], ["A"], ["A"], ["A"]])

    def test_first_the_walk_of_a_base_then_the_base(self):
        library = several_ways()
        self.assertEqual(library.walk("Left"), ["Top"])
        self.assertEqual(library.walk("Right"), ["Top"])
        self.assertEqual(library.walk("Deep"), ["Top", "Left"])
        self.assertEqual(library.walk("Join"), ["Top", "Right", "Left"])
        self.assertEqual(library.walk("Last"), ["Top", "Right", "Left"])
        self.assertEqual(library.walk("Alone"), [])

    def test_order_of_the_bases(self):
        top = [own("A"), own("B"), own("C")]
        self.assertEqual(Library(top + [own("D", "+C +A +B")]).walk("D"), ["C", "A", "B"])
        self.assertEqual(Library(top + [own("D", "+C B +A")]).walk("D"), ["C", "A"])
        self.assertEqual(Library(top + [own("D", "+B"), own("E", "+C D +A")]).walk("E"), ["C", "B", "A"])

    def test_a_base_that_is_on_the_walk_of_a_later_one(self):
        library = Library([own("A"), own("B"), own("C", "+B +A"), own("D", "+A C")])
        self.assertEqual(library.walk("D"), ["A", "B"])

    def test_plain_bases_of_shared_ones_are_not_on_it(self):
        library = Library([own("A"), own("B", "A"), own("C", "+B")])
        self.assertEqual(library.walk("C"), ["B"])


class NearParts(unittest.TestCase):
    def test_diamond(self):
        library = diamond()
        self.assertEqual([library.near(name) for name in "ABCD"], [["A"], ["B"], ["C"], ["D", "B", "C"]])

    def test_the_class_and_then_base_by_base(self):
        library = Library([own("A"), own("B"), own("C", "A"), own("D", "B"), own("E", "D C")])
        self.assertEqual(library.near("E"), ["E", "D", "B", "C", "A"])

    def test_shared_bases_are_not_in_it(self):
        library = several_ways()
        self.assertEqual(library.near("Right"), ["Right", "Side"])
        self.assertEqual(library.near("Join"), ["Join", "Deep"])
        self.assertEqual(library.near("Last"), ["Last", "Join", "Deep"])


class Open(unittest.TestCase):
    def test_diamond(self):
        self.assertEqual([diamond().is_open(name) for name in "ABCD"], [True] * 4)

    def test_open_by_methods(self):
        for method in (opened("f"), bare("f"), opened("f", shown=False), bare("f", shown=False)):
            library = Library([own("A", methods=[method]), own("B", "A"), own("C", "B"), own("D", "+A")])
            for name in "ABCD":
                self.assertIs(library.is_open(name), True)

    def test_plain_methods_and_bases_are_not_enough(self):
        library = Library([own("A", "", "a1", [plain("f")]), own("B", "A", "b1")])
        for name in "AB":
            self.assertIs(library.is_open(name), False)

    def test_open_by_shared_ancestors_alone(self):
        library = Library([own("A"), own("B", "+A"), own("C", "B"), own("D", "A")])
        self.assertEqual([library.is_open(name) for name in "ABCD"], [False, True, True, False])


class Introducers(unittest.TestCase):
    def test_diamond(self):
        library = diamond()
        self.assertEqual(library.introducers("A"), [("A", "f")])
        self.assertEqual(library.introducers("B"), [("A", "f")])
        self.assertEqual(library.introducers("C"), [("C", "g"), ("A", "f")])
        self.assertEqual(library.introducers("D"), [("C", "g"), ("A", "f")])

    def test_order_of_calls(self):
        library = Library([
            own("A", methods=["a"]), own("B", methods=["b"]), own("C", "A", methods=["c"]),
            own("S", "B", methods=["s"]), own("T", "+S", methods=["t"]),
            own("E", "T C", methods=["y", "x"]),
        ])
        self.assertEqual(library.introducers("E"), [("E", "y"), ("E", "x"), ("T", "t"), ("C", "c"), ("A", "a"),
                                                    ("S", "s"), ("B", "b")])

    def test_walk_in_its_order(self):
        library = Library([own("A", methods=["a"]), own("B", methods=["b"]), own("C", "+B +A", methods=["c"])])
        self.assertEqual(library.introducers("C"), [("C", "c"), ("B", "b"), ("A", "a")])

    def test_order_of_methods_in_a_class(self):
        library = Library([own("A", methods=["z", plain("m"), "a", bare("k")])])
        self.assertEqual(library.introducers("A"), [("A", "z"), ("A", "a"), ("A", "k")])

    def test_overrides_introduce_nothing(self):
        library = Library([own("A", methods=["f"]), own("B", "A", methods=[bare("f"), "g"])])
        self.assertEqual(library.introducers("B"), [("B", "g"), ("A", "f")])

    def test_hidden_methods_are_there(self):
        library = Library([own("A", methods=[opened("f", shown=False)]), own("B", "A", methods=["f"])])
        self.assertEqual(library.introducers("B"), [("A", "f")])

    def test_one_name_introduced_twice(self):
        library = Library([own("A", methods=["f"]), own("B", methods=["f"]), own("C", "A B", methods=["f"])])
        self.assertEqual(library.introducers("C"), [("A", "f"), ("B", "f")])


class LastOverrides(unittest.TestCase):
    def test_diamond(self):
        library = diamond()
        self.assertEqual(library.last_override("D", "A", "f"), "B")
        self.assertEqual(library.last_override("D", "C", "g"), "D")
        self.assertEqual(library.last_override("C", "A", "f"), "A")
        self.assertEqual(library.last_override("A", "A", "f"), "A")

    def test_far_down(self):
        library = Library([own("A", methods=["f"]), own("B", "+A", methods=["f"]), own("C", "+B", methods=["f"]),
                           own("D", "+B"), own("E", "D C"), own("F", "E", methods=["f"]), own("G", "F")])
        found = [library.last_override(name, "A", "f") for name in "ABCDEFG"]
        self.assertEqual(found, ["A", "B", "C", "B", "C", "F", "F"])

    def test_two_introducers_of_one_name(self):
        library = Library([own("A", methods=["f"]), own("B", methods=["f"]), own("C", "A B"),
                           own("D", "C", methods=["f"]), own("E", "D")])
        self.assertEqual(library.last_override("C", "A", "f"), "A")
        self.assertEqual(library.last_override("C", "B", "f"), "B")
        for introducer in "AB":
            self.assertEqual(library.last_override("E", introducer, "f"), "D")

    def test_an_override_of_one_of_two(self):
        library = Library([own("A", methods=["f"]), own("B", methods=["f"]), own("X", "A", methods=["f"]),
                           own("C", "X B")])
        self.assertEqual(library.last_override("C", "A", "f"), "X")
        self.assertEqual(library.last_override("C", "B", "f"), "B")

    def test_errors(self):
        library = diamond()
        for name in wrong_names():
            self.assertRaises(NoClass, library.last_override, name, "A", "f")
            with self.assertRaises(NoClass) as caught:
                library.last_override("D", name, None)
            self.assertIs(caught.exception.name, name)
        for introducer in "BCD":
            self.assertEqual(raised(library.last_override, "A", introducer, "f"), ("NoClass", introducer))
        self.assertEqual(raised(library.last_override, "B", "C", "f"), ("NoClass", "C"))
        for introducer in "BCD":
            self.assertEqual(raised(library.last_override, "D", introducer, "f"), ("NoMember", "f"))
        for method in wrong_names() + ["a", "g", "F"]:
            with self.assertRaises(NoMember) as caught:
                library.last_override("D", "A", method)
            self.assertIs(caught.exception.name, method)

    def test_plain_methods_are_not_introduced(self):
        library = Library([own("A", "", "a1", [plain("p")])])
        self.assertEqual(raised(library.last_override, "A", "A", "p"), ("NoMember", "p"))
        self.assertEqual(raised(library.last_override, "A", "A", "a"), ("NoMember", "a"))


class Bare(unittest.TestCase):
    def test_by_the_last_override(self):
        library = Library([own("A", methods=[bare("f")]), own("B", "A", methods=["f"]), own("C", "B"),
                           own("D", "C", methods=[bare("f")]), own("E", "D"), own("F", "+E", methods=["f"])])
        self.assertEqual([library.is_bare(name) for name in "ABCDEF"], [True, False, False, True, True, False])

    def test_none_in_the_diamond(self):
        for name in "ABCD":
            self.assertIs(diamond().is_bare(name), False)

    def test_one_of_several(self):
        library = Library([own("A", methods=["f", bare("g")]), own("B", "A", methods=["f"]),
                           own("C", "A", methods=["g"]), own("D", "", "d1", [plain("p")])])
        self.assertEqual([library.is_bare(name) for name in "ABCD"], [True, True, False, False])

    def test_a_shared_ancestor_is_overridden_elsewhere(self):
        library = Library([own("A", methods=[bare("f")]), own("B", "+A"), own("C", "+A", methods=["f"]),
                           own("D", "B C")])
        self.assertEqual([library.is_bare(name) for name in "ABCD"], [True, True, False, False])

    def test_hidden_ones_count(self):
        self.assertTrue(Library([own("A", methods=[bare("f", shown=False)])]).is_bare("A"))


class Found(unittest.TestCase):
    def setUp(self):
        fields = (Field("a", "int1"), Field("h", "int1", 0, False))
        methods = (opened("f"), opened("g", shown=False), plain("p"), plain("q", shown=False), bare("k"))
        self.library = Library([
            Class("A", (), fields, methods),
            Class("B", (("A", "plain"),), (Field("b", "int1"),), (opened("f", shown=False), opened("g"))),
            Class("C", (("B", "shared"),), (), (plain("c"),)),
        ])

    def test_each_kind_from_each_class(self):
        for name in "ABC":
            self.assertEqual(self.library.found(name, "a"), ("field", "A", "a"))
            self.assertEqual(self.library.found(name, "f"), ("open", "A", "f"))
            self.assertEqual(self.library.found(name, "k"), ("open", "A", "k"))
            self.assertEqual(self.library.found(name, "p"), ("plain", "A", "p"))

    def test_only_the_class_and_its_ancestors(self):
        self.assertIsNone(self.library.found("A", "b"))
        self.assertEqual(self.library.found("B", "b"), ("field", "B", "b"))
        self.assertEqual(self.library.found("C", "b"), ("field", "B", "b"))
        self.assertIsNone(self.library.found("B", "c"))
        self.assertEqual(self.library.found("C", "c"), ("plain", "C", "c"))

    def test_hidden_members(self):
        for name in "ABC":
            self.assertIsNone(self.library.found(name, "h"))
            self.assertIsNone(self.library.found(name, "q"))
            self.assertIsNone(self.library.found(name, "q", hidden=False))
            self.assertEqual(self.library.found(name, "h", hidden=True), ("field", "A", "h"))
            self.assertEqual(self.library.found(name, "q", hidden=True), ("plain", "A", "q"))
            self.assertEqual(self.library.found(name, "a", hidden=True), ("field", "A", "a"))

    def test_the_mark_where_it_was_introduced(self):
        for name in "ABC":
            self.assertEqual(self.library.found(name, "f"), ("open", "A", "f"))
            self.assertIsNone(self.library.found(name, "g"))
            self.assertEqual(self.library.found(name, "g", hidden=True), ("open", "A", "g"))

    def test_the_first_introducer_that_is_not_left_out(self):
        library = Library([own("A", methods=[opened("f", shown=False)]), own("B", methods=["f"]), own("C", "A B"),
                           own("D", "B A")])
        self.assertEqual(library.found("C", "f"), ("open", "B", "f"))
        self.assertEqual(library.found("C", "f", hidden=True), ("open", "A", "f"))
        self.assertEqual(library.found("D", "f"), ("open", "B", "f"))
        self.assertEqual(library.found("D", "f", hidden=True), ("open", "B", "f"))

    def test_the_order_of_calls_decides(self):
        library = Library([own("A", methods=["f"]), own("B", methods=["f"]), own("C", "+A B"), own("D", "+A +B")])
        self.assertEqual(library.found("C", "f"), ("open", "B", "f"))
        self.assertEqual(library.found("D", "f"), ("open", "A", "f"))

    def test_unknown_names(self):
        for member in ("", "z", "A", "F", " f", "this", "x" * 99, "\u00e9"):
            self.assertIsNone(self.library.found("C", member))
            self.assertIsNone(self.library.found("C", member, hidden=True))

    def test_errors(self):
        for name in wrong_names():
            self.assertRaises(NoClass, self.library.found, name, "a")
            self.assertRaises(NoClass, self.library.found, name, None)
        for member in strangers() + oddities() + [0, 1, True, (), ("a",), Field("a", "int1"), opened("f")]:
            for hidden in (True, False):
                with self.assertRaises(NoMember) as caught:
                    self.library.found("A", member, hidden=hidden)
                self.assertIs(caught.exception.name, member)


if __name__ == "__main__":
    unittest.main()
