"""What clients have built in: exposed, unlike and probes (points 40 to 42)."""

import unittest

from oldclients.clients import Client, Resolved
from oldclients.compiler import Code, lacking, needs
from oldclients.declared import Body, Class, Field, Routine
from oldclients.exposed import exposed, probes, unlike
from oldclients.libraries import Library
from tests.helpers import bare, base_library, diamond, oddities, opened, own, plain, raised, strangers


def rich():
    """Return a library with needs of each kind, hidden members, and closed, lent and bare classes."""
    a = Class("A", (), (Field("a", "int4"), Field("h", "int1", 0, False), Field("r", "A")),
              (opened("f", params=(("p", "int2"), ("q", "A")), result="int8"), opened("g", shown=False),
               plain("p", (("x", "B"),), "A"), plain("ph", shown=False)))
    rows = [a, own("B", "+A", "b1", [opened("f", params=(("p", "int2"), ("q", "A")), result="int8")]),
            own("C", "B", "", [bare("m")]), own("Shut", "C", "s2", ["m"], closed=True),
            own("Lent", "", "l8", lent=True),
            own("Both", "Lent", closed=True, lent=True), own("Flat")]
    return Library(rows, [Routine("r", (("x", "A"), ("i", "int1")), "int2", Body()), Routine("none", (), None, Body())])


class Exposed(unittest.TestCase):
    def test_the_diamond(self):
        self.assertEqual(exposed(diamond()), [
            (("cast", "A"), ()), (("cast", "B"), ()), (("cast", "C"), ()), (("cast", "D"), ()),
            (("class", "A"), ()), (("class", "B"), ()), (("class", "C"), ()), (("class", "D"), ()),
            (("derive", "A"), (12, 8, 16, (("A", 0),), ((0, (), (("A", "f"),)),))),
            (("derive", "B"), (9, 8, 32, (("B", 0), ("A", 16)),
                               ((0, (("A", 16),), ()), (16, (), (("B", "f"),))))),
            (("derive", "C"), (16, 8, 32, (("C", 0), ("A", 16)),
                               ((0, (("A", 16),), (("C", "g"),)), (16, (), (("A", "f"),))))),
            (("derive", "D"), (34, 8, 56, (("D", 0), ("B", 0), ("C", 16), ("A", 40)),
                               ((0, (("A", 40),), ()), (16, (("A", 24),), (("D", "g"),)), (40, (), (("B", "f"),))))),
            (("field", "A", "a", "int4"), (8,)), (("field", "B", "b", "int1"), (8,)),
            (("field", "C", "c", "int8"), (8,)), (("field", "D", "d", "int2"), (32,)),
            (("make", "A"), (16,)), (("make", "B"), (32,)), (("make", "C"), (32,)), (("make", "D"), (56,)),
            (("open", "A", "f", (), ""), (0,)), (("open", "C", "g", (), ""), (0,)),
            (("reach", "B", "A"), ("way", -3, 0)), (("reach", "C", "A"), ("way", -3, 0)),
            (("reach", "D", "A"), ("way", -3, 0)), (("reach", "D", "B"), ("place", 0)),
            (("reach", "D", "C"), ("place", 16))])

    def test_the_document(self):
        rows = dict(exposed(library=diamond()))
        self.assertEqual(rows["reach", "C", "A"], ("way", -3, 0))
        self.assertEqual(rows["open", "A", "f", (), ""], (0,))

    def test_which_are_there(self):
        found = exposed(rich())
        self.assertEqual([need for need, _ in found], sorted(need for need, _ in found))
        self.assertEqual(len(dict(found)), len(found))
        rows = {}
        for need, _ in found:
            rows.setdefault(need[0], []).append(need[1:])
        names = ["A", "B", "Both", "C", "Flat", "Lent", "Shut"]
        self.assertEqual(rows, {
            "class": [(name,) for name in names], "cast": [("A",), ("B",), ("C",), ("Shut",)],
            "derive": [("A",), ("B",), ("C",), ("Flat",), ("Lent",)],
            "field": [("A", "a", "int4"), ("A", "r", "A"), ("B", "b", "int1"), ("Lent", "l", "int8"),
                      ("Shut", "s", "int2")],
            "make": [("A",), ("B",), ("Flat",), ("Shut",)],
            "open": [("A", "f", ("int2", "A"), "int8"), ("C", "m", (), "")],
            "plain": [("A", "p", ("B",), "A")],
            "reach": [("B", "A"), ("Both", "Lent"), ("C", "A"), ("C", "B"), ("Shut", "A"), ("Shut", "B"),
                      ("Shut", "C")],
            "routine": [("none", (), ""), ("r", ("A", "int1"), "int2")]})

    def test_numbers(self):
        rows = dict(exposed(rich()))
        self.assertEqual(rows["plain", "A", "p", ("B",), "A"], ())
        self.assertEqual(rows["routine", "none", (), ""], ())
        self.assertEqual(rows["field", "A", "r", "A"], (16,))
        self.assertEqual(rows["make", "Flat"], (1,))
        self.assertEqual(rows["derive", "Flat"], (1, 1, 1, (("Flat", 0),), ()))
        self.assertEqual(rows["derive", "Lent"], (8, 8, 8, (("Lent", 0),), ()))
        self.assertEqual(rows["derive", "C"], (
            9, 8, 40, (("C", 0), ("B", 0), ("A", 16)),
            ((0, (("A", 16),), (("C", "m"),)), (16, (), (("B", "f"), ("A", "g"))))))
        self.assertEqual(rows["open", "C", "m", (), ""], (0,))
        self.assertEqual(rows["reach", "Shut", "A"], ("way", -3, 0))

    def test_hidden_members_move_numbers_but_are_not_there(self):
        item = Class("P", (), (Field("h", "int4", 0, False), Field("a", "int1")),
                     (opened("g", shown=False), opened("f")))
        rows = dict(exposed(Library([item])))
        self.assertEqual(rows["field", "P", "a", "int1"], (12,))
        self.assertEqual(rows["open", "P", "f", (), ""], (1,))
        self.assertEqual(len(rows), 6)

    def test_the_mark_where_a_method_is_introduced_counts(self):
        rows = dict(exposed(Library([own("P", "", "", [opened("f")]), own("Q", "P", "", [opened("f", shown=False)]),
                                     own("R", "", "", [opened("g", shown=False)]), own("S", "R", "", [opened("g")])])))
        self.assertEqual([need for need in rows if need[0] == "open"], [("open", "P", "f", (), "")])

    def test_empty(self):
        self.assertEqual(exposed(Library([])), [])
        self.assertEqual(exposed(Library([], [Routine("r", body=Body())])), [(("routine", "r", (), ""), ())])

    def test_lists_are_new(self):
        library = diamond()
        exposed(library).clear()
        self.assertEqual(len(exposed(library)), 27)


def base(**marks):
    """Return a class P with two fields and a method."""
    return own("P", "", "a4 b2", ["f"], **marks)


class Unlike(unittest.TestCase):
    def test_none(self):
        self.assertIsNone(unlike(diamond(), diamond()))
        self.assertIsNone(unlike(old=Library([]), new=diamond()))
        self.assertIsNone(unlike(Library([base()]),
                                 Library([own("N"), base(), own("Q", "P")], [Routine("r", body=Body())])))

    def test_the_first_pair(self):
        old = Library([base(), own("Q")])
        for new, pair in [
                ([], (("cast", "P"), ())), ([own("P", "", "a4 b2"), own("Q")], (("cast", "P"), ())),
                ([base()], (("class", "Q"), ())),
                ([base(closed=True), own("Q")], (("derive", "P"), (14, 8, 16, (("P", 0),), ((0, (), (("P", "f"),)),)))),
                ([base(), own("Q", closed=True)], (("derive", "Q"), (1, 1, 1, (("Q", 0),), ()))),
                ([base(), own("Q", lent=True)], (("make", "Q"), (1,)))]:
            self.assertEqual(unlike(old, Library(new)), pair)

    def test_numbers_of_closed_classes(self):
        old = Library([base(closed=True)])
        hidden = Field("h", "int2", 0, False)
        new = Library([Class("P", (), (Field("a", "int4"), hidden, Field("b", "int2")), (opened("f"),), True)])
        self.assertEqual(unlike(old, new), (("field", "P", "b", "int2"), (12,)))
        new = Library([Class("P", (), (Field("a", "int4"), Field("b", "int2"), hidden), (opened("f"),), True)])
        self.assertIsNone(unlike(old, new))
        new = Library([Class("P", (), (Field("a", "int4"), Field("b", "int2"), hidden), (opened("g"), opened("f")),
                             True)])
        self.assertEqual(unlike(old, new), (("open", "P", "f", (), ""), (0,)))

    def test_it_is_no_symmetry(self):
        small, large = Library([own("P")]), Library([own("P"), own("Q")])
        self.assertIsNone(unlike(small, large))
        self.assertEqual(unlike(large, small), (("class", "Q"), ()))

    def test_last_overrides_of_classes_to_derive_from(self):
        old, new = Library([base(), own("Q", "P")]), Library([base(), own("Q", "P", "", ["f"])])
        self.assertEqual(unlike(old, new)[0], ("derive", "Q"))
        shut = Library([base(), own("Q", "P", closed=True)]), Library([base(), own("Q", "P", "", ["f"], closed=True)])
        self.assertIsNone(unlike(*shut))


class Probes(unittest.TestCase):
    def check(self, library, need):
        """Check what each probe must be, and return the probes."""
        clients = probes(library, need)
        self.assertIs(type(clients), list)
        self.assertTrue(1 <= len(clients) <= 2)
        for client in clients:
            self.assertIs(type(client), Client)
            steps = list(client.steps) + [step for item in client.classes for method in item.methods
                                          for step in (method.body.steps if method.body else ())]
            self.assertLessEqual(len(client.classes), 2)
            self.assertLessEqual(len(steps), 1)
            resolved = Resolved(client, library)
            self.assertIn(need, needs(resolved))
            self.assertEqual(lacking(resolved, library), [])
        return clients

    def differ(self, old, new, need):
        """Tell whether a later library lacks what a probe needs, or gives it other code."""
        for client in self.check(old, need):
            resolved = Resolved(client, old)
            if lacking(resolved, new) or Code(resolved, new) != Code(resolved):
                return True
        return False

    def test_one_for_each_need(self):
        for library in (rich(), diamond(), base_library()):
            for need, _ in exposed(library):
                self.check(library, need)
                self.assertFalse(self.differ(library, library, need))

    def test_they_show_all_numbers(self):
        old = rich()
        variants = []
        for name in old.names():
            for change in ("fields", "hidden", "method", "closed", "lent", "first", "less", "none"):
                rows = []
                for item in [old.item(known) for known in old.names()]:
                    if item.name == name:
                        values = {key: getattr(item, key) for key in ("name", "bases", "fields", "methods", "closed",
                                                                      "lent")}
                        if change == "fields":
                            values["fields"] += (Field("zz", "int4", 0, False),)
                        elif change == "hidden":
                            values["fields"] = (Field("zz", "int8", 0, False),) + values["fields"]
                        elif change == "method":
                            values["methods"] = (opened("zm", shown=False),) + values["methods"]
                        elif change == "first":
                            values["fields"] = values["fields"][::-1]
                        elif change == "less":
                            values["fields"] = values["fields"][1:]
                        elif change == "none":
                            values["methods"] = values["methods"][1:]
                        else:
                            values[change] = not values[change]
                        item = Class(**values)
                    rows.append(item)
                variants.append(Library(rows, old.routines()))
        variants.append(Library([old.item(name) for name in old.names()]))
        count = 0
        for new in variants:
            later = dict(exposed(new))
            for need, numbers in exposed(old):
                if later.get(need) != numbers:
                    self.assertTrue(self.differ(old, new, need), need)
                    count += 1
        self.assertGreater(count, 80)

    def test_each_number_of_derive(self):
        hidden = Field("h", "int1", 0, False)
        pairs = [
            # near size alone: the whole size stays
            (own("P", "", "a4 b1"), Class("P", (), (Field("a", "int4"), Field("b", "int1"), hidden))),
            # alignment alone: an int2 in the place of two int1
            (Class("P", (), (Field("h", "int2", 0, False), Field("i", "int2", 0, False))),
             Class("P", (), tuple(Field(name, "int1", 0, False) for name in "hijk"))),
            (Class("P", (), (Field("h", "int8", 0, False),)),
             Class("P", (), (Field("h", "int4", 0, False), Field("i", "int4", 0, False))))]
        for one, other in pairs:
            for old, new in ((one, other), (other, one)):
                old, new = Library([old]), Library([new])
                numbers = dict(exposed(old))["derive", "P"], dict(exposed(new))["derive", "P"]
                self.assertNotEqual(*numbers)
                self.assertEqual(numbers[0][2:], numbers[1][2:])
                self.assertTrue(self.differ(old, new, ("derive", "P")))

    def test_names_of_members_are_avoided(self):
        names = [f"{letter}{number}" for letter in "kxaz" for number in ("", "0")]
        fields = tuple(Field(name, "int1") for name in names)
        library = Library([Class("P", (), fields), Class("Q", (("P", "plain"),), tuple(
            Field(f"k{number}", "int1") for number in range(1, 9))), own("R", "Q", "", [plain("k9"), "k10"])])
        for name in "PQR":
            self.check(library, ("derive", name))

    def test_no_need(self):
        library = rich()
        wrong = strangers() + oddities() + [
            "class", 5, True, ("class",), ("class", "Q"), ("class", "A", ""), ["class", "A"], ("make", "C"),
            ("make", "Lent"),
            ("derive", "Shut"), ("cast", "Flat"), ("reach", "A", "B"), ("reach", "A", "A"), ("field", "A", "h", "int1"),
            ("field", "A", "a", "int2"), ("field", "B", "a", "int4"), ("field", "A", "a"), ("open", "A", "g", (), ""),
            ("open", "B", "f", ("int2", "A"), "int8"), ("open", "A", "f", ["int2", "A"], "int8"),
            ("open", "A", "f", ("int2", "A"), None), ("plain", "A", "ph", (), ""), ("routine", "none", (), None),
            ("routine", "none", (), ("",)), ("other", "A"), (("class", "A"), ()), ("", ""), (),
            ("class", oddities()[0]), (oddities()[0], "A"), ("class", oddities()[1]), (["class"], "A"),
            ("class", ["A"]),
            ("open", "A", "f", ("int2", oddities()[0]), "int8")]
        for need in wrong:
            self.assertEqual(raised(probes, library, need), ("NoNeed", need))
        self.assertEqual(raised(probes, library=Library([]), need=("class", "A")), ("NoNeed", ("class", "A")))

    def test_equal_arguments_give_equal_results(self):
        for need, _ in exposed(rich()):
            self.assertEqual(probes(rich(), need), probes(rich(), need))


if __name__ == "__main__":
    unittest.main()
