"""What may harm old clients: dangers and dangers_for (points 45 to 47)."""

import random
import unittest

from oldclients.compiler import Code, lacking, needs
from oldclients.clients import Client, Resolved
from oldclients.declared import Body, Class, Field, Method, Routine
from oldclients.errors import Lacks
from oldclients.exposed import exposed, unlike
from oldclients.harming import dangers, dangers_for
from oldclients.layouts import Layout
from oldclients.libraries import Library
from oldclients.machine import Build
from oldclients.memory import owners
from oldclients.stepping import out_of_step
from tests.chances import Chance, items, later_library, replaced, some_client, some_library, with_new_bodies
from tests.helpers import bare, doing, main, opened, own, plain

SHUT = {"closed": True, "lent": True}


def hidden(name, form, start=0):
    """Return a hidden field."""
    return Field(name, form, start, False)


def pair(old, new, routines=()):
    """Return two libraries."""
    return Library(list(old), routines), Library(list(new), routines)


def told(old, new):
    """Return the dangers for two rows of classes."""
    return dangers(*pair(old, new))


def calling(name):
    """Return a plain method p that calls a method of this."""
    return doing("p", [("call", None, "this", name, ())], kind="plain")


def alone():
    """Return for each word a tuple: two libraries that have this danger alone, the danger, and a client."""
    give = Routine("give", (), "C", Body((("x", "C"),), (("new", "x", "C"), ("return", "x"))))
    made = main("x:mine", ("new", "x", "mine"), ("call", None, "x", "p", ()), classes=[own("mine", "C")])
    rows = {}
    rows["field"] = (*pair([Class("C", (), (hidden("h", "int4"), Field("a", "int4")), (), True)],
                           [Class("C", (), (Field("a", "int4"), hidden("h", "int4")), (), True)]),
                     ("field", "C", "a", "int4"), main("x:C i:int4", ("new", "x", "C"), ("get", "i", "x", "a")))
    rows["reach"] = (*pair([own("A", "", "a4"), own("Z", "", "z4"), own("C", "A", **SHUT)],
                           [own("A", "", "a4"), own("Z", "", "z4"), own("C", "Z A", **SHUT)], [give]),
                     ("reach", "C", "A"),
                     main("x:C y:A i:int4", ("do", "x", "give", ()), ("set", "y", "x"), ("get", "i", "y", "a")))
    rows["open"] = (*pair([own("C", "", "", ["f"], closed=True)],
                          [own("C", "", "", [opened("h", shown=False), "f"], closed=True)]),
                    ("open", "C", "f", (), ""), main("x:C", ("new", "x", "C"), ("call", None, "x", "f", ())))
    rows["make"] = (*pair([own("C", "", "a4", closed=True)],
                          [Class("C", (), (Field("a", "int4"), hidden("h", "int4")), (), True)]),
                    ("make", "C"), main("x:C", ("new", "x", "C")))
    rows["alignment"] = (*pair([Class("C", (), (hidden("h", "int4"), hidden("k", "int4")))],
                               [Class("C", (), (hidden("h", "int8"),))]),
                         ("derive", "C", "alignment"),
                         main("x:mine", ("new", "x", "mine"), classes=[own("byte", "", "b1"), own("mine", "byte C")]))
    rows["overrides"] = (*pair([own("A", "", "", ["f"]), own("C", "A")], [own("A", "", "", ["f"]), own("C", "A", "", ["f"])]),
                         ("derive", "C", "overrides"),
                         main("x:mine", ("new", "x", "mine"), ("call", None, "x", "f", ()), classes=[own("mine", "C")]))
    getting = Method("p", "plain", (), None, Body((("i", "int4"),), (("get", "i", "this", "z"),)))
    rows["parts"] = (*pair(
        [own("A", "", "a4"), own("Z", "", "z4"), Class("C", (("A", "plain"),), (hidden("h", "int4"),), (plain("p"),))],
        [own("A", "", "a4"), own("Z", "", "z4"), own("C", "A Z", "", [getting])]), ("derive", "C", "parts"), made)
    rows["pointers"] = (*pair([Class("C", (), (hidden("h", "int8"),), (plain("p"),))],
                              [Class("C", (), (), (opened("g", shown=False), calling("g")))]),
                        ("derive", "C", "pointers"), made)
    rows["size"] = (*pair([own("C", "", "a4", lent=True)],
                          [Class("C", (), (Field("a", "int4"), hidden("h", "int4")), (), False, True)]),
                    ("derive", "C", "size"),
                    main("x:mine", ("new", "x", "mine"), classes=[own("mine", "C", "k4")]))
    rows["tables"] = (*pair([own("C", "", "", ["f", plain("p")])],
                            [own("C", "", "", ["f", opened("g", shown=False), calling("g")])]),
                      ("derive", "C", "tables"), made)
    return rows


class EachAlone(unittest.TestCase):
    def test_a_client_is_out_of_step(self):
        words = ["alignment", "field", "make", "open", "overrides", "parts", "pointers", "reach", "size", "tables"]
        rows = alone()
        self.assertEqual(sorted(rows), words)
        for word, (old, new, danger, client) in rows.items():
            with self.subTest(word=word):
                self.assertEqual(dangers(old, new), [danger])
                resolved = Resolved(client, old)
                self.assertEqual(dangers_for(resolved, new), [danger])
                self.assertIsNone(out_of_step(resolved, Code(resolved), Build(old)))
                self.assertIsNotNone(out_of_step(resolved, Code(resolved), Build(new)))

    def test_lacks(self):
        old, new = pair([own("C", "", "a4 b4", **SHUT)], [own("C", "", "a4", **SHUT)])
        need = ("field", "C", "b", "int4")
        self.assertEqual(dangers(old, new), [("lacks", need)])
        resolved = Resolved(main("x:C", ("put", "x", "b", 1)), old)
        self.assertEqual(dangers_for(resolved, new), [("lacks", need)])
        with self.assertRaises(Lacks) as caught:
            out_of_step(resolved, Code(resolved), Build(new))
        self.assertEqual(caught.exception.need, need)


class OfNeeds(unittest.TestCase):
    def test_every_need_can_be_lacking(self):
        old = Library([own("A", "", "a4", ["f", plain("p")]), own("B", "A")], [Routine("r", (), None, Body())])
        new = Library([own("A", "", "a4", ["f", plain("p")])])
        wanted = [("lacks", need) for need in [("cast", "B"), ("class", "B"), ("derive", "B"), ("make", "B"),
                                               ("reach", "B", "A"), ("routine", "r", (), "")]]
        self.assertEqual(dangers(old, new), wanted)
        self.assertEqual(dangers(old, Library([])), [("lacks", need) for need, _ in exposed(old)])
        self.assertEqual(dangers(Library([]), old), [])

    def test_other_forms_are_lacking(self):
        old, new = pair([own("A", "", "a4", [opened("f", result="int1")], **SHUT)],
                        [own("A", "", "a8", [opened("f")], **SHUT)])
        self.assertEqual(dangers(old, new), [("lacks", ("field", "A", "a", "int4")),
                                             ("lacks", ("open", "A", "f", (), "int1"))])

    def test_numbers_of_fields_ways_and_methods(self):
        old = [own("A", "", "a4 b4", ["f", "g"], **SHUT), own("B", "+A", "c4", **SHUT)]
        new = [own("A", "", "b4 a4", ["g", "f"], **SHUT), own("B", "A", "c4", **SHUT)]
        self.assertEqual(told(old, new), [
            ("field", "A", "a", "int4"), ("field", "A", "b", "int4"), ("field", "B", "c", "int4"),
            ("open", "A", "f", (), ""), ("open", "A", "g", (), ""), ("reach", "B", "A")])

    def test_hidden_things_may_move(self):
        old = [Class("A", (), (Field("a", "int4"), hidden("h", "int1"), hidden("k", "int1")),
                     (opened("f"), opened("g", shown=False), opened("i", shown=False)), True, True)]
        new = [Class("A", (), (Field("a", "int4"), hidden("k", "int1"), hidden("h", "int1")),
                     (opened("f"), opened("i", shown=False), opened("g", shown=False)), True, True)]
        self.assertEqual(told(old, new), [])

    def test_more_is_no_danger(self):
        old = [own("A", "", "a4", **SHUT)]
        new = [own("New", "", "n8", ["f"]), own("A", "New", "a4 b8", ["g"])]
        self.assertEqual(told(old, new), [("field", "A", "a", "int4")])
        self.assertEqual(told(old, [own("A", "", "a4 b8", [plain("p")]), own("New", "A", "n8", ["f"])]), [])


class Making(unittest.TestCase):
    def words(self, old, new):
        return [danger for danger in told(old, new) if danger[0] == "make"]

    def test_a_field_just_within_and_just_behind(self):
        old = [own("C", "", "a8 b1", closed=True)]
        for size, form in ((8, "int1"), (8, "int2"), (8, "int4")):
            new = [Class("C", (), (Field("a", "int8"), Field("b", "int1"), hidden("h", form)), (), True)]
            self.assertEqual(self.words(old, new), [])
        full = (Field("a", "int8"), Field("b", "int1"), hidden("h", "int2"), hidden("k", "int4"))
        self.assertEqual(self.words(old, [Class("C", (), full, (), True)]), [])
        self.assertEqual(self.words(old, [Class("C", (), full + (hidden("z", "int1"),), (), True)]), [("make", "C")])

    def test_a_new_whole_size_alone_is_none(self):
        old = [own("C", "", "a1 b1 c1", closed=True)]
        new = [Class("C", (), (Field("a", "int1"), Field("b", "int1"), hidden("h", "int1")), (), True)]
        self.assertEqual([Layout(Library(rows)).whole_size("C") for rows in (old, new)], [3, 3])
        self.assertEqual(self.words(old, new), [])
        # two bytes more would be whole bytes of the rounding alone
        old = [Class("C", (), (hidden("h", "int1"), hidden("i", "int1"), hidden("j", "int1")), (), True)]
        new = [Class("C", (), (hidden("h", "int2"), hidden("i", "int1")), (), True)]
        self.assertEqual([Layout(Library(rows)).whole_size("C") for rows in (old, new)], [3, 4])
        self.assertEqual(self.words(old, new), [])

    def test_a_pointer_within_and_behind(self):
        old = [own("S", "", "", ["f"]), Class("C", (("S", "shared"),), (hidden("h", "int8"),), (), True)]
        self.assertEqual(Layout(Library(old)).whole_size("C"), 24)
        wide = Class("C", (("S", "shared"),), (hidden("h", "int8"), hidden("i", "int1")), (), True)
        self.assertEqual(self.words(old, [old[0], wide]), [("make", "C")])
        slim = Class("C", (("S", "shared"),), (hidden("h", "int1"), hidden("i", "int1")), (), True)
        self.assertEqual(self.words(old, [old[0], slim]), [])
        self.assertEqual(self.words([own("S"), own("C", "", "a8", closed=True)],
                                    [own("S"), own("C", "", "", ["f"], closed=True)]), [])
        self.assertEqual(self.words([own("S"), own("C", "", "a4", closed=True)],
                                    [own("S"), own("C", "", "", ["f"], closed=True)]), [("make", "C")])

    def test_a_part_within_and_behind(self):
        old = [own("E"), own("C", "", "a1", closed=True)]
        self.assertEqual(self.words(old, [own("E"), own("C", "E", closed=True)]), [])
        self.assertEqual(self.words(old, [own("F"), own("E"), own("C", "F E", closed=True)]), [("make", "C")])
        two = [own("E"), own("C", "", "a1 b1", closed=True)]
        self.assertEqual(self.words(two, [own("F"), own("E"), own("C", "F E", closed=True)]), [])

    def test_of_shared_ancestors(self):
        old = [own("S", "", "s1"), own("C", "+S", closed=True)]
        for fields, wanted in (("s1 t1 u2 v4", []), ("s1 t1 u2 v4 w1", [("make", "C")])):
            rows = tuple(Field(field[:-1], "int" + field[-1], 0, field[0] == "s") for field in fields.split())
            self.assertEqual([danger for danger in self.words(old, [Class("S", (), rows), old[1]])
                              if danger[1] == "C"], wanted)

    def test_lent_and_bare_classes(self):
        old = [own("C", "", "a1", [bare("n")]), own("D", "", "d1", lent=True)]
        new = [own("C", "", "a1 b8", [bare("n")]), own("D", "", "d1 e8", lent=True)]
        self.assertEqual(self.words(old, new), [])
        self.assertEqual(told([own("D", "", "d1")], [own("D", "", "d1", lent=True)]), [("lacks", ("make", "D"))])


class Deriving(unittest.TestCase):
    def words(self, old, new, name="C"):
        """Return the words of a class from which clients may derive."""
        return [danger[2] for danger in told(old, new) if danger[:2] == ("derive", name)]

    def test_closed_classes_have_none(self):
        old, new = [own("C", "", "a4", closed=True)], [own("C", "", "a4 b8", ["f"], closed=True)]
        self.assertEqual([danger for danger in told(old, new) if danger[0] == "derive"], [])

    def test_alignment(self):
        for one, other, wanted in ((4, 4, []), (4, 2, []), (4, 8, ["alignment"]), (1, 2, ["alignment"]), (8, 4, [])):
            rows = [Class("C", (), tuple(hidden(f"h{k}", f"int{size}") for k in range(8 // size)))
                    for size in (one, other)]
            self.assertEqual(self.words(rows[:1], rows[1:]), wanted)

    def test_alignment_of_the_class_alone(self):
        old = [Class("S", (), (hidden("h", "int1"),)), own("C", "+S")]
        new = [Class("S", (), (hidden("h", "int8"),)), own("C", "+S")]
        self.assertEqual(self.words(old, new), [])
        self.assertEqual(self.words(old, new, "S"), ["alignment", "size"])

    def test_overrides(self):
        a, other = own("A", "", "", ["f", "g"]), own("A", "", "", ["g", "f"])
        over = own("C", "A", "", ["f"])
        self.assertEqual(self.words([a, own("C", "A")], [a, over]), ["overrides"])
        self.assertEqual(self.words([a, over], [a, own("C", "A")]), ["overrides"])
        self.assertEqual(self.words([a, over], [a, over]), [])
        # the same classes with other methods: the names differ, which is another word
        self.assertEqual(self.words([a, own("C", "A")], [other, own("C", "A")]), ["tables"])
        self.assertEqual(self.words([a, over], [other, over]), ["overrides", "tables"])

    def test_overrides_of_hidden_methods_and_without_bodies(self):
        a = own("A", "", "", [opened("f", shown=False)])
        self.assertEqual(self.words([a, own("C", "A")], [a, own("C", "A", "", ["f"])]), ["overrides"])
        b = own("A", "", "", [bare("f", shown=False)])
        self.assertEqual(self.words([a, own("C", "A", lent=True)], [b, own("C", "A", lent=True)]), [])

    def test_overrides_in_tables_of_one_class_alone(self):
        s = own("S", "", "", ["f"])
        self.assertEqual(self.words([s, own("C", "+S")], [s, own("C", "+S", "", ["f"])]), ["overrides"])
        t = own("T", "", "", ["f"])
        # the table of S went away, and that of T has another class
        words = self.words([s, own("T"), own("C", "+S")], [own("S"), t, own("C", "+S +T", "", ["f"])])
        self.assertEqual(words, ["parts", "pointers", "tables"])

    def test_overrides_in_tables_that_moved(self):
        s = own("S", "", "", ["f"])
        old = [s, own("C", "+S", "", [plain("p")])]
        new = [s, Class("C", (("S", "shared"),), (hidden("h", "int8"),), (plain("p"), opened("f")))]
        self.assertEqual([Layout(Library(rows)).pointers("C")[1] for rows in (old, new)], [("S", 8), ("S", 16)])
        self.assertEqual(self.words(old, new), ["overrides", "size"])
        # the tables at 8 are of other classes, so they are not compared
        t = own("T", "", "", ["f"])
        old, new = [s, t, own("C", "+S +T", "", [])], [s, t, own("C", "+T +S", "", [])]
        self.assertEqual([Layout(Library(rows)).pointers("C")[1] for rows in (old, new)], [("S", 8), ("T", 16 - 8)])
        self.assertEqual(self.words(old, new), ["tables"])

    def test_parts_of_the_near_part(self):
        a, b = own("A", "", "a4"), own("B", "", "b4")
        self.assertEqual(self.words([a, b, own("C", "A B")], [a, b, own("C", "A B")]), [])
        self.assertEqual(self.words([a, b, own("C", "A B")], [a, b, own("C", "B A")]), ["parts"])
        rows = [own("P"), own("A", "", "a4", ["f"]), own("C", "P A", "c1"), own("C", "A P", "c1")]
        self.assertEqual(Layout(Library(rows[:3])).places("C"), [("C", 0), ("P", 12), ("A", 0)])
        self.assertEqual(self.words(rows[:3], rows[:2] + rows[3:]), [])

    def test_parts_by_the_walk(self):
        s, t = own("S", "", "s4"), own("T", "", "t4")
        self.assertEqual(self.words([s, t, own("C", "+S +T")], [s, t, own("C", "+T +S")]), ["tables"])
        self.assertEqual(self.words([s, t, own("C", "+S")], [s, t, own("C", "+S +T")]), ["parts", "tables"])
        self.assertEqual(self.words([s, t, own("C", "+S +T")], [s, t, own("C", "+S")]), ["parts"])

    def test_parts_of_a_class_of_the_walk(self):
        rows = [own("A"), Class("S", (), (hidden("h", "int4"),)), own("C", "+S")]
        new = [own("A"), Class("S", (("A", "plain"),), (hidden("h", "int4"),)), own("C", "+S")]
        self.assertEqual(self.words(rows, new), ["parts"])
        self.assertEqual(self.words(new, rows), ["parts"])

    def test_pointers(self):
        old = [Class("C", (), (hidden("h", "int8"),))]
        new = [Class("C", (), (), (opened("g", shown=False),))]
        self.assertEqual(self.words(old, new), ["pointers"])
        self.assertEqual(self.words(new, old), ["pointers"])
        self.assertEqual(self.words(new, new), [])

    def test_pointers_of_a_base_and_of_a_class_of_the_walk(self):
        for kind in ("B", "+B"):
            old = [Class("B", (), (hidden("h", "int8"),)), own("C", kind, "", ["f"])]
            new = [Class("B", (), (), (opened("g", shown=False),)), own("C", kind, "", ["f"])]
            words = {"B": ["overrides", "parts", "tables"], "+B": ["pointers"]}[kind]
            self.assertEqual(self.words(old, new), words)

    def test_size_of_the_class(self):
        old = [own("C", "", "a8 b1", lent=True)]
        for many, wanted in ((0, []), (1, ["size"])):
            rows = (Field("a", "int8"), Field("b", "int1")) + tuple(hidden(f"h{k}", "int1") for k in range(many))
            self.assertEqual(self.words(old, [Class("C", (), rows, (), False, True)]), wanted)
        old = [Class("C", (), (hidden("a", "int1"), hidden("b", "int2"), hidden("c", "int1")), (), False, True)]
        new = [Class("C", (), (hidden("a", "int2"), hidden("b", "int2"), hidden("c", "int1")), (), False, True)]
        self.assertEqual([Layout(Library(rows)).near_size("C") for rows in (old, new)], [5, 5])
        self.assertEqual(self.words(old, new), [])

    def test_size_by_a_pointer(self):
        old, new = [Class("C", (), (hidden("h", "int4"),))], [Class("C", (), (), (opened("g", shown=False),))]
        self.assertEqual(self.words(old, new), ["alignment", "pointers", "size"])

    def test_size_of_an_empty_part_is_one_of_parts(self):
        old, new = [own("E"), own("F"), own("C", "E")], [own("E"), own("F"), own("C", "E F")]
        self.assertEqual(self.words(old, new), ["parts"])

    def test_size_of_a_class_of_the_walk_is_rounded(self):
        old = [own("S", "", "s1", **SHUT), own("C", "+S", lent=True)]
        for fields, wanted in (("t1", []), ("t1 u2 v4", []), ("t1 u2 v4 w1", ["size"]), ("t8", ["size"])):
            rows = (Field("s", "int1"),) + tuple(hidden(field[0], "int" + field[1]) for field in fields.split())
            self.assertEqual(self.words(old, [Class("S", (), rows, (), True, True), old[1]]), wanted, fields)
        old = [own("S", "", "s8", **SHUT), own("C", "+S", lent=True)]
        new = [Class("S", (), (Field("s", "int8"), hidden("h", "int1")), (), True, True), old[1]]
        self.assertEqual(self.words(old, new), ["size"])

    def test_size_of_the_class_is_not_rounded(self):
        old = [own("S"), own("C", "+S", "c1", lent=True)]
        new = [own("S"), Class("C", (("S", "shared"),), (Field("c", "int1"), hidden("h", "int1")), (), False, True)]
        self.assertEqual(self.words(old, new), ["size"])

    def test_tables_by_entries(self):
        def rows(*names):
            return [own("C", "", "", [opened(name, shown=name == "f") for name in names])]
        for old, new, wanted in ((("f", "g"), ("f", "g"), []), (("f", "g"), ("f",), []), (("f",), ("f", "g"), ["tables"]),
                                 (("f", "g"), ("f", "h"), ["tables"]), (("g", "f"), ("f", "g"), ["tables"])):
            self.assertEqual(self.words(rows(*old), rows(*new)), wanted)

    def test_names_of_entries_count_not_their_introducers(self):
        up, down = opened("f"), opened("g", shown=False)
        old = [own("A", "", "", [up], **SHUT), own("C", "A", "", [down])]
        new = [own("A", "", "", [up, down], **SHUT), own("C", "A", "", [down])]
        self.assertEqual(self.words(old, new), [])
        self.assertEqual(self.words(new, old), [])

    def test_tables_by_ways(self):
        s, t = own("S"), own("T")
        self.assertEqual(self.words([s, t, own("C", "+S +T")], [s, t, own("C", "+T +S")]), ["tables"])
        self.assertEqual(self.words([s, t, own("C", "+S +T")], [s, t, own("C", "+S")]), ["parts"])

    def test_tables_of_each_pointer(self):
        base = own("B", "", "", ["f"], **SHUT)
        wide = own("B", "", "", ["f", opened("g", shown=False)], **SHUT)
        other = own("A", "", "", ["a"], **SHUT)
        for bases in ("A B", "A +B", "+A +B"):
            self.assertEqual(self.words([other, base, own("C", bases)], [other, wide, own("C", bases)]), ["tables"])
            self.assertEqual(self.words([other, wide, own("C", bases)], [other, base, own("C", bases)]), [])

    def test_a_class_of_the_walk_that_is_gone(self):
        old, new = [own("S", "", "s4", ["f"]), own("C", "+S", "", ["g"])], [own("C", "", "", ["g"])]
        self.assertEqual(self.words(old, new), ["parts"])
        old = [own("B", "", "b4", ["f"]), own("C", "B", "", ["g"])]
        self.assertEqual(self.words(old, new), ["overrides", "parts", "tables"])

    def test_all_of_them_ascending_and_once(self):
        old = [own("S", "", "s1"), own("C", "+S", "c1", ["f"], lent=True)]
        new = [own("S", "", "s8 t8", ["g"]), own("T"), own("C", "T +S", "d8 c1", ["f", "h"], lent=True)]
        rows = told(old, new)
        self.assertEqual(rows, sorted(rows))
        self.assertEqual(len(rows), len(set(rows)))
        self.assertEqual([row for row in rows if row[:2] == ("derive", "C")],
                         [("derive", "C", word) for word in ("parts", "pointers", "size", "tables")])


def last_byte(library, name, classes):
    """Return where the last byte ends of a whole object that is a field or pointer of some classes."""
    return max([at + 1 for at, (_, owner, _) in enumerate(owners(library, name)) if owner in classes], default=0)


def slow_words(old, new, name):
    """Return the words of a class, straight from the document."""
    before, behind = Layout(old), Layout(new)
    starts = [name] + [other for other in old.walk(name) if other in new]
    words = set()
    if behind.alignment(name) > before.alignment(name):
        words.add("alignment")
    for table in before.tables(name):
        for other in behind.tables(name):
            if table[0] == other[0]:
                many = min(len(table[3]), len(other[3]))
                if any(table[3][at][1] != other[3][at][1] for at in range(many)):
                    words.add("overrides")
    if set(old.walk(name)) != set(new.walk(name)):
        words.add("parts")
    for start in starts:
        places = [{pair for pair in layout.places(start) if pair[0] in library.near(start)}
                  for layout, library in ((before, old), (behind, new))]
        pointers = [{pair for pair in layout.pointers(start) if pair[0] in library.near(start)}
                    for layout, library in ((before, old), (behind, new))]
        if places[0] != places[1]:
            words.add("parts")
        if pointers[0] != pointers[1]:
            words.add("pointers")
        size = before.near_size(start)
        if last_byte(new, start, new.near(start)) > (size if start == name else -(-size // 8) * 8):
            words.add("size")
    for owner, _ in before.pointers(name):
        if owner in new:
            entries = [[method for _, method in layout.entries(owner)] for layout in (before, behind)]
            ways = [layout.ways(owner) for layout in (before, behind)]
            if entries[1] != entries[0][:len(entries[1])] or ways[1] != ways[0][:len(ways[1])]:
                words.add("tables")
    return sorted(words)


def slow_dangers(old, new):
    """Return all dangers, straight from the document."""
    rows, known = [], dict(exposed(new))
    for need, numbers in exposed(old):
        if need not in known:
            rows.append(("lacks", need))
        elif need[0] in ("reach", "field", "open"):
            rows += [need] if numbers != known[need] else []
        elif need[0] == "make":
            size = Layout(old).whole_size(need[1])
            is_behind = any(place >= size for _, place in Layout(new).places(need[1]))
            rows += [need] if is_behind or last_byte(new, need[1], new.names()) > size else []
        elif need[0] == "derive":
            rows += [(*need, word) for word in slow_words(old, new, need[1])]
    return sorted(rows)


def slimmer(chance, library):
    """Return two libraries, the later of which has smaller hidden fields at the ends of its classes."""
    rows, others = [], []
    for item in items(library):
        field = hidden("end" + item.name.lower(), chance.one(["int2", "int4"]))
        less = hidden(field.name, chance.one(["int1", "int2"]))
        if len(item.fields) < 8 and chance.often(0.7):
            rows.append(replaced(item, fields=item.fields + (field,)))
            others.append(replaced(item, fields=item.fields + (less,)))
        else:
            rows.append(item)
            others.append(item)
    return Library(rows, library.routines()), Library(others, library.routines())


class ManyPairs(unittest.TestCase):
    def test_slow_words(self):
        seen = {}
        for seed in range(250):
            chance = Chance(random.Random(3000 + seed))
            old = some_library(chance, chance.one([2, 4, 6]))
            new = later_library(chance, old, chance.one([1, 2, 4]))
            rows = dangers(old, new)
            self.assertEqual(rows, slow_dangers(old, new), seed)
            for row in rows:
                word = row[2] if row[0] == "derive" else row[0]
                seen[word] = seen.get(word, 0) + 1
        self.assertEqual(len(seen), 11, seen)
        self.assertGreater(min(seen.values()), 5, seen)

    def test_no_dangers_no_harm(self):
        counts = {"none": 0, "unlike": 0, "not its own": 0, "out of step": 0}
        for seed in range(200):
            chance = Chance(random.Random(5000 + seed))
            old = some_library(chance, chance.one([2, 4, 6]))
            new = later_library(chance, old, chance.one([1, 1, 2]))
            if seed // 2 * 2 == seed:
                old, new = slimmer(chance, new)
            if chance.often(0.7):
                new = with_new_bodies(chance, new)
            rows = dangers(old, new)
            first = unlike(old, new)
            if first is None:
                self.assertEqual(rows, [])
            counts["unlike"] += first is not None and not rows
            build = Build(new)
            for _ in range(3):
                client = some_client(chance, old)
                concerned = dangers_for(client, new)
                self.assertEqual([row for row in rows if row in concerned], concerned)
                if concerned:
                    if not lacking(client, new):
                        counts["out of step"] += out_of_step(client, Code(client), build, most=100) is not None
                    continue
                counts["not its own" if rows else "none"] += 1
                self.assertIsNone(out_of_step(client, Code(client), build, most=100), seed)
        self.assertGreater(min(counts.values()), 10, counts)


class ForClients(unittest.TestCase):
    def setUp(self):
        self.old = Library([own("A", "", "a4 b4", ["f"]), own("B", "A", "c4"), own("Far", "", "x4")],
                           [Routine("r", (("p", "A"),), None, Body())])
        self.new = Library([own("A", "", "b4 a4", ["g", "f"]), own("B", "", "c4"), own("Far", "", "x4 y4")],
                           [Routine("r", (), None, Body())])

    def test_clients_that_need_nothing_and_all(self):
        self.assertEqual(dangers_for(Resolved(Client([]), self.old), self.new), [])
        steps = (("new", "b", "B"), ("new", "a", "A"), ("cast", "a", "b"), ("set", "a", "b"), ("get", "i", "a", "a"),
                 ("get", "i", "a", "b"), ("get", "i", "b", "c"), ("call", None, "a", "f", ()), ("do", None, "r", ("a",)),
                 ("cast", "b", "a"), ("new", "e", "Far"), ("get", "i", "e", "x"))
        classes = [own("u", "A"), own("v", "B"), own("w", "Far")]
        everything = Resolved(main("a:A b:B e:Far i:int4", *steps, classes=classes), self.old)
        self.assertEqual(needs(everything), [need for need, _ in exposed(self.old)])
        self.assertEqual(dangers_for(everything, self.new), dangers(self.old, self.new))
        self.assertGreater(len(dangers(self.old, self.new)), 8)

    def test_each_kind_by_itself(self):
        self.assertEqual(dangers_for(Resolved(main("a:A i:int4", ("get", "i", "a", "a")), self.old), self.new),
                         [("field", "A", "a", "int4")])
        self.assertEqual(dangers_for(Resolved(main("a:A", ("call", None, "a", "f", ())), self.old), self.new),
                         [("open", "A", "f", (), "")])
        self.assertEqual(dangers_for(Resolved(main("e:Far", ("new", "e", "Far")), self.old), self.new), [("make", "Far")])
        self.assertEqual(dangers_for(Resolved(main("", classes=[own("w", "Far")]), self.old), self.new),
                         [("derive", "Far", "size")])
        self.assertEqual(dangers_for(Resolved(main("b:B a:A", ("set", "a", "b")), self.old), self.new),
                         [("lacks", ("reach", "B", "A"))])
        self.assertEqual(dangers_for(Resolved(main("", ("do", None, "r", (None,))), self.old), self.new),
                         [("lacks", ("routine", "r", ("A",), ""))])
        self.assertEqual(dangers_for(Resolved(main("e:Far i:int4", ("get", "i", "e", "x")), self.old), self.new), [])

    def test_by_name_and_without_changes(self):
        resolved = Resolved(main("a:A i:int4", ("get", "i", "a", "a")), self.old)
        self.assertEqual(dangers(new=self.new, old=self.old), dangers(self.old, self.new))
        self.assertEqual(dangers_for(new=self.new, resolved=resolved), dangers_for(resolved, self.new))
        rows = dangers(self.old, self.new)
        rows.clear()
        self.assertNotEqual(dangers(self.old, self.new), [])
        one = dangers_for(resolved, self.new)
        one.append(1)
        self.assertEqual(dangers_for(resolved, self.new), [("field", "A", "a", "int4")])

    def test_the_example(self):
        a = Class("A", (), (Field("a", "int4"), Field("b", "int8", 0, False)))
        b = replaced(a, fields=(Field("a", "int4"), Field("b", "int1", 0, False)))
        old, new = pair([a], [b])
        self.assertEqual([(Layout(one).near_size("A"), Layout(one).alignment("A")) for one in (old, new)],
                         [(16, 8), (5, 4)])
        self.assertEqual(unlike(old, new)[0], ("derive", "A"))
        self.assertEqual(dangers(old, new), [])


if __name__ == "__main__":
    unittest.main()
