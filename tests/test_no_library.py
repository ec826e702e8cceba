"""Points 6 to 8: which libraries are valid, and what NoLibrary has if one is not."""

import unittest

from oldclients.declared import Body, Class, Field, Method, Routine
from oldclients.libraries import Library
from tests.helpers import Bag, bare, opened, own, plain, raised, refused, routine, strangers


class Rows(unittest.TestCase):
    def test_classes_are_a_list(self):
        for classes in [value for value in strangers() if not isinstance(value, list)] + [(), (own("A"),), "", 0, True]:
            self.assertEqual(refused(classes), (-1, "classes", -1), repr(classes))
            self.assertEqual(refused(classes, None), (-1, "classes", -1), repr(classes))
        self.assertIsNone(refused([]))

    def test_numbers_of_classes(self):
        many = [own("A" + str(at)) for at in range(23)]
        for size in (1, 19, 20):
            self.assertIsNone(refused(many[:size]))
        for size in (21, 22, 23):
            self.assertEqual(refused(many[:size]), (-1, "classes", -1))
        self.assertEqual(refused([None] * 21), (-1, "classes", -1))

    def test_routines_are_a_list_or_a_tuple(self):
        right = [value for value in strangers() if isinstance(value, list) and not value]
        for routines in right + [(), [routine()], (routine(),)]:
            self.assertIsNone(refused([], routines))
        for routines in [value for value in strangers() if not isinstance(value, list)] + ["", 0, True, "r", routine()]:
            self.assertEqual(refused([], routines), (-1, "routines", -1), repr(routines))

    def test_numbers_of_routines(self):
        many = [routine("r" + str(at)) for at in range(23)]
        for kind in (list, tuple):
            for size in (1, 19, 20):
                self.assertIsNone(refused([], kind(many[:size])))
            for size in (21, 22, 23):
                self.assertEqual(refused([], kind(many[:size])), (-1, "routines", -1))

    def test_rows_go_ahead_of_items(self):
        self.assertEqual(refused([None], None), (-1, "routines", -1))
        self.assertEqual(refused([None], [None] * 21), (-1, "routines", -1))
        self.assertEqual(refused([None] * 21, [None] * 21), (-1, "classes", -1))
        self.assertEqual(refused([None], [None]), (0, "class", -1))


class Parts(unittest.TestCase):
    def test_class(self):
        alike = Bag(name="A", bases=(), fields=(), methods=(), closed=False, lent=False)
        for value in strangers() + [alike, 7, True, "A", (), ("A",), Routine("A"), Field("A", "int1"), Library([])]:
            self.assertEqual(refused([value]), (0, "class", -1), repr(value))
            self.assertEqual(refused([own("A"), value, None]), (1, "class", -1), repr(value))

    def test_name(self):
        self.assertEqual(refused([own("A"), own("B"), own("A")]), (2, "name", -1))
        self.assertEqual(refused([own("A"), own("A")]), (1, "name", -1))
        self.assertEqual(refused([own("A"), own("b")]), (1, "name", -1))
        self.assertIsNone(refused([own("A"), own("Aa"), own("AA"), own("A1")]))

    def test_bases(self):
        for bases in strangers() + ["", "A", 0, True, [("A", "plain")], (("A", "plain"),) * 5, (None,) * 5]:
            self.assertEqual(refused([own("A"), Class("X", bases)]), (1, "bases", -1), repr(bases))

    def test_index_of_a_base(self):
        right = [("A", "plain"), ("B", "shared"), ("C", "plain")]
        wrong = [None, "A", (), ("A",), "AB", ["D", "plain"], ("D", "plain", 0), ("D", "open"), ("D", "Plain"),
                 ("D", ""), ("D", True), ("D", None), ("D", []), ("plain", "D"), ("X", "plain"), ("Y", "plain"),
                 ("Z", "plain"), (None, "plain"), ([], "plain"), ({}, "shared"), (0, "plain"), (("D",), "plain"),
                 (own("D"), "plain"), own("D"), 7, True, "plain", {"D": "plain"}, ("d", "plain"), ("", "plain")]
        for index in range(4):
            for base in wrong:
                bases = tuple(right[:index] + [base] + right[index:])
                classes = [own(name) for name in "ABCD"] + [Class("X", bases), own("Y")]
                self.assertEqual(refused(classes), (4, "bases", index), repr(base))
        self.assertIsNone(refused([own(name) for name in "ABCD"] + [Class("X", tuple(right) + (("D", "shared"),))]))

    def test_a_base_for_the_second_time(self):
        first = [own("A"), own("B")]
        for kinds in (("plain", "plain"), ("plain", "shared"), ("shared", "plain"), ("shared", "shared")):
            twice = (("A", kinds[0]), ("A", kinds[1]))
            self.assertEqual(refused(first + [Class("X", twice)]), (2, "bases", 1))
            self.assertEqual(refused(first + [Class("X", (twice[0], ("B", "plain"), twice[1]))]), (2, "bases", 2))

    def test_a_base_may_be_closed_or_lent(self):
        self.assertIsNone(refused([own("A", closed=True, lent=True), own("B", "A")]))

    def test_fields(self):
        for fields in strangers() + ["", 0, True, [Field("a", "int1")], Field("a", "int1"), (None,) * 9]:
            self.assertEqual(refused([own("A"), Class("X", (), fields)]), (1, "fields", -1), repr(fields))

    def test_index_of_a_field(self):
        right = [Field("a", "int1"), Field("b", "X"), Field("c", "Z", 0, False)]
        wrong = strangers() + [7, "a", ("a", "int1"), opened("a"), Bag(name="d", form="int1", start=0, shown=True),
                               Field("A", "int1"), Field("d", "int3"), Field("d", "Y"), Field("d", "int1", 128),
                               Field("d", "Z", 1), Field("d", "int1", True), Field("d", "int1", 0, 1),
                               Field("d", "int1", 0, 0), Field(None, "int1"), Field("d", []), Class("D")]
        for index in range(4):
            for field in wrong:
                fields = tuple(right[:index] + [field] + right[index:])
                found = refused([own("A"), Class("X", (), fields), own("Z")])
                self.assertEqual(found, (1, "fields", index), repr(field))

    def test_every_index_of_a_member(self):
        for index in range(8):
            fields = [Field(f"a{at}", "int1") for at in range(8)]
            methods = [opened(f"f{at}") for at in range(8)]
            fields[index] = methods[index] = None
            self.assertEqual(refused([Class("A", (), tuple(fields))]), (0, "fields", index))
            self.assertEqual(refused([Class("A", (), (), tuple(methods))]), (0, "methods", index))

    def test_every_number(self):
        for number in range(20):
            classes = [own(f"A{at}") for at in range(20)]
            routines = [routine(f"r{at}") for at in range(20)]
            routines[number] = None
            self.assertEqual(refused(classes, routines), (number, "routine", -1))
            classes[number] = None
            self.assertEqual(refused(classes, routines), (number, "class", -1))

    def test_a_field_for_the_second_time(self):
        a, b = Field("a", "int1"), Field("b", "int1")
        self.assertEqual(refused([Class("A", (), (a, a))]), (0, "fields", 1))
        self.assertEqual(refused([Class("A", (), (a, b, Field("a", "int8")))]), (0, "fields", 2))

    def test_methods(self):
        for methods in strangers() + ["", 0, True, [opened("f")], opened("f"), (None,) * 9]:
            self.assertEqual(refused([own("A"), Class("X", (), (), methods)]), (1, "methods", -1), repr(methods))

    def test_index_of_a_method(self):
        right = [opened("f", result="Z"), plain("g"), bare("h", shown=False)]
        wrong = strangers() + [7, "f", ("f", "open"), Field("k", "int1"), opened("K"), opened("k", "closed"),
                               opened("k", result="Y"), opened("k", params=(("this", "X"),)), Method("k", "plain"),
                               Method("k", "open"), Method("k", "bare", body=Body()), opened("k", shown=1),
                               routine("k"), opened("a"), plain("a"), opened("f"), Class("K")]
        for index in range(4):
            for method in wrong:
                later = isinstance(method, Method) and method.name == "f" and index == 0
                methods = tuple(right[:index] + [method] + right[index:])
                found = refused([own("A"), Class("X", (), (Field("a", "int1"),), methods), own("Z")])
                self.assertEqual(found, (1, "methods", 1 if later else index), repr(method))

    def test_a_method_for_the_second_time(self):
        for other in (opened("f"), plain("f"), bare("f"), opened("f", result="int1")):
            self.assertEqual(refused([own("A", methods=["f", "g", other])]), (0, "methods", 2))

    def test_a_method_with_the_name_of_a_field(self):
        self.assertEqual(refused([own("A", fields="a1 b1", methods=["f", "b"])]), (0, "methods", 1))

    def test_marks(self):
        for mark in strangers() + [0, 1, "", "True", ()]:
            for marks in ({"closed": mark}, {"lent": mark}, {"closed": mark, "lent": mark}):
                self.assertEqual(refused([own("A"), own("B", **marks)]), (1, "marks", -1), repr(mark))
        for closed in (True, False):
            for lent in (True, False):
                self.assertIsNone(refused([own("A", closed=closed, lent=lent)]))


class OneParts(unittest.TestCase):
    """Point 6, its first sentence but one."""

    def test_one_class_alone_has_it(self):
        self.assertIsNone(refused([own("A"), own("B", "A"), own("C", "B"), own("D", "C")]))
        self.assertIsNone(refused([own("A"), own("B", "+A"), own("C", "B"), own("D", "C")]))
        self.assertIsNone(refused([own("A"), own("B"), own("C", "A B")]))

    def test_several_have_it(self):
        for first, second in (("A", "A"), ("A", "+A"), ("+A", "A"), ("+A", "+A")):
            for join in ("B C", "+B +C", "B +C"):
                found = refused([own("A"), own("B", first), own("C", second), own("D", join)])
                self.assertEqual(found, None if first == second == "+A" else (3, "parts", -1))

    def test_the_class_itself_counts(self):
        for first in ("A", "+A"):
            for second in ("A B", "+A B", "B A", "+A +B"):
                found = refused([own("A"), own("B", first), own("C", second)])
                right = first == "+A" and "+A" in second
                self.assertEqual(found, None if right else (2, "parts", -1), (first, second))

    def test_a_distant_ancestor(self):
        classes = [own("A"), own("B", "A"), own("C", "B"), own("D", "+B"), own("E", "C D")]
        self.assertEqual(refused(classes), (4, "parts", -1))
        classes = [own("A"), own("B", "A"), own("C", "+B"), own("D", "+B"), own("E", "C D"), own("F", "+E")]
        self.assertIsNone(refused(classes))
        self.assertEqual(refused(classes + [own("G", "F A")]), (6, "parts", -1))

    def test_side_by_side_in_two_classes(self):
        self.assertIsNone(refused([own("A"), own("B", "A"), own("C", "A"), own("D", "+A")]))


class NamesOfMembers(unittest.TestCase):
    """Point 6, its last sentence."""

    def check(self, first, second, right):
        for bases in ("A", "+A"):
            classes = [own("A", methods=[first]) if isinstance(first, Method) else Class("A", (), (first,))]
            pairs = own("X", bases).bases
            rows = ((), (second,)) if isinstance(second, Method) else ((second,), ())
            self.assertEqual(refused(classes + [Class("B", pairs, *rows)]), None if right else (1, "names", -1))
            far = classes + [own("M", bases), Class("B", (("M", "plain"),), *rows)]
            self.assertEqual(refused(far), None if right else (2, "names", -1))

    def test_fields_are_declared_once(self):
        for second in (Field("n", "int1"), Field("n", "int8"), plain("n"), opened("n"), bare("n")):
            self.check(Field("n", "int1"), second, False)
            self.check(second, Field("n", "int1"), False)

    def test_plain_methods_are_declared_once(self):
        for second in (plain("n"), opened("n"), bare("n")):
            self.check(plain("n"), second, False)
            self.check(second, plain("n"), False)

    def test_open_and_bare_methods_with_the_same_forms(self):
        for first in (opened, bare):
            for second in (opened, bare):
                self.check(first("n"), second("n"), True)
                params = (("p", "int1"), ("q", "A"))
                self.check(first("n", params=params, result="A"), second("n", params=params, result="A"), True)
                renamed = (("x", "int1"), ("p", "A"))
                self.check(first("n", params=params, result="A"), second("n", params=renamed, result="A"), True)

    def test_other_forms(self):
        params = (("p", "int1"), ("q", "A"))
        for other in ((("p", "int1"),), (("p", "A"), ("q", "int1")), (("p", "int2"), ("q", "A")), ()):
            self.check(opened("n", params=params), opened("n", params=other), False)
            self.check(opened("n", params=other), bare("n", params=params), False)
        self.check(opened("n", result="int1"), opened("n"), False)
        self.check(opened("n"), opened("n", result="int1"), False)
        self.check(opened("n", result="int1"), opened("n", result="int2"), False)

    def test_hidden_members_count(self):
        self.check(Field("n", "int1", 0, False), Field("n", "int1"), False)
        self.check(plain("n", shown=False), Field("n", "int1"), False)
        self.check(opened("n", shown=False), opened("n", result="int1"), False)
        self.check(opened("n", shown=False), opened("n"), True)
        self.check(opened("n"), opened("n", shown=False), True)

    def test_two_ancestors(self):
        self.assertEqual(refused([own("A", fields="n1"), own("B", fields="n1"), own("C", "A B")]), (2, "names", -1))
        self.assertIsNone(refused([own("A", fields="n1"), own("B", fields="n1"), own("C", "A")]))
        self.assertIsNone(refused([own("A", methods=["n"]), own("B", methods=["n"]), own("C", "A B")]))
        two = [own("A", methods=["n"]), own("B", methods=[opened("n", result="int1")]), own("C", "A B")]
        self.assertEqual(refused(two), (2, "names", -1))

    def test_a_shared_ancestor_declares_once(self):
        self.assertIsNone(refused([own("A", fields="n1"), own("B", "+A"), own("C", "+A"), own("D", "B C")]))


class LastOverrides(unittest.TestCase):
    """Point 7: each class needs a last override for each method."""

    def test_two_overrides_side_by_side(self):
        top = [own("A", methods=["f"]), own("B", "+A", methods=["f"]), own("C", "+A", methods=["f"])]
        self.assertEqual(refused(top + [own("D", "B C")]), (3, "overrides", -1))
        self.assertIsNone(refused(top + [own("D", "B C", methods=["f"])]))
        self.assertIsNone(refused(top + [own("D", "B C", methods=[bare("f")])]))
        self.assertIsNone(refused(top + [own("D", "B"), own("E", "C")]))

    def test_one_override_of_two_ways(self):
        top = [own("A", methods=["f"]), own("B", "+A", methods=["f"]), own("C", "+A")]
        self.assertIsNone(refused(top + [own("D", "B C")]))

    def test_bare_and_hidden_ones_count(self):
        for first in (bare("f"), opened("f", shown=False)):
            for second in (bare("f"), opened("f", shown=False)):
                top = [own("A", methods=["f"]), own("B", "+A", methods=[first]), own("C", "+A", methods=[second])]
                self.assertEqual(refused(top + [own("D", "B C")]), (3, "overrides", -1))

    def test_two_introducers_have_each_its_own(self):
        two = [own("A", methods=["f"]), own("B", methods=["f"]), own("C", "A B")]
        self.assertIsNone(refused(two))
        self.assertIsNone(refused(two + [own("D", "C", methods=["f"])]))

    def test_an_override_of_two_introducers(self):
        # F overrides both in E's line; G, beside it, only that of A
        top = [own("A", methods=["f"]), own("B", methods=["f"]), own("F", "+A +B", methods=["f"]),
               own("G", "+A", methods=["f"])]
        self.assertEqual(refused(top + [own("H", "F G")]), (4, "overrides", -1))
        self.assertIsNone(refused(top + [own("H", "F G", methods=["f"])]))

    def test_three_ways_with_one_last(self):
        top = [own("A", methods=["f"]), own("B", "+A", methods=["f"]), own("C", "+B", methods=["f"]),
               own("D", "+B"), own("E", "C D")]
        self.assertIsNone(refused(top))
        classes = top[:3] + [own("D", "+B", methods=["f"]), own("E", "C D")]
        self.assertEqual(refused(classes), (4, "overrides", -1))


class Order(unittest.TestCase):
    PARTS = ["name", "bases", "parts", "fields", "methods", "names", "overrides", "marks"]

    def broken(self, parts):
        """Return classes whose fourth one is wrong in just these parts."""
        top = [own("A", methods=["f"]), own("B", "+A", "n1", methods=["f"]), own("C", "+A", methods=["f"])]
        bases = "B C"
        if "parts" in parts:
            bases = "B C A"
        pairs = own("X", bases).bases
        if "bases" in parts:
            pairs = pairs + (("Q", "plain"),)
        fields = (Field("n", "int1"),) if "names" in parts else (Field("m", "int1"),)
        if "fields" in parts:
            fields = fields + (None,)
        methods = () if "overrides" in parts else (opened("f"),)
        if "methods" in parts:
            methods = methods + (None,)
        name = "x" if "name" in parts else "X"
        return top + [Class(name, pairs, fields, methods, 1 if "marks" in parts else False)]

    def test_parts_of_one_class(self):
        self.assertIsNone(refused(self.broken([])))
        for at, part in enumerate(self.PARTS):
            for later in range(at, len(self.PARTS)):
                found = refused(self.broken(self.PARTS[at:later + 1]))
                self.assertEqual(found[:2], (3, part))
            for other in self.PARTS[at + 1:]:
                self.assertEqual(refused(self.broken([part, other]))[:2], (3, part), other)

    def test_the_first_class(self):
        for first in self.PARTS:
            for second in ("marks", "name", "bases"):
                classes = self.broken([first])
                last = {"marks": own("Z", closed=1), "name": own("A"), "bases": own("Z", "Y")}[second]
                self.assertEqual(refused(classes + [last])[:2], (3, first))
                self.assertEqual(refused([None] + classes)[:2], (0, "class"))

    def test_classes_go_ahead_of_routines(self):
        self.assertEqual(refused([own("A"), own("B", closed=0)], [None]), (1, "marks", -1))

    def test_forms_may_name_later_and_invalid_classes(self):
        a = Class("A", (), (Field("b", "B"),), (opened("f", params=(("p", "C"),), result="D"),))
        self.assertIsNone(refused([a, own("B"), own("C"), own("D")]))
        self.assertEqual(refused([a, own("B"), own("C"), own("D", closed=1)]), (3, "marks", -1))
        self.assertEqual(refused([a, own("B"), own("C")]), (0, "methods", 0))
        self.assertEqual(refused([a, own("C"), own("D")]), (0, "fields", 0))
        self.assertEqual(refused([Class("A", (), (Field("b", "b"),)), own("b")]), (0, "fields", 0))
        self.assertEqual(refused([Class("A", (), (Field("b", "B"),)), Bag(name="B")]), (0, "fields", 0))
        self.assertEqual(refused([Class("A", (), (Field("b", "int1"),)), Class([])]), (1, "name", -1))


class Routines(unittest.TestCase):
    def test_index(self):
        alike = Bag(name="r", params=(), result=None, body=Body())
        for value in strangers() + [7, "r", (), opened("r"), Body(), alike]:
            self.assertEqual(refused([], [value]), (0, "routine", -1), repr(value))
            self.assertEqual(refused([own("A")], (routine("r"), value, None)), (1, "routine", -1), repr(value))
        self.assertEqual(refused([], [routine("R")]), (0, "routine", 0))
        self.assertEqual(refused([], [routine("r"), routine("s"), routine("r")]), (2, "routine", 0))
        self.assertEqual(refused([], [Routine("r", [], None, Body())]), (0, "routine", 1))
        self.assertEqual(refused([], [Routine("r", (("this", "int1"),), None, Body())]), (0, "routine", 1))
        self.assertEqual(refused([], [Routine("r", (), "int3", Body())]), (0, "routine", 2))
        for body in strangers() + [(), Body([]), Body((("this", "int1"),)), Body((), [])]:
            self.assertEqual(refused([], [Routine("r", (), None, body)]), (0, "routine", 3), repr(body))

    def test_order(self):
        self.assertEqual(refused([], [Routine("R", [], "x", None)]), (0, "routine", 0))
        self.assertEqual(refused([], [Routine("r", [], "x", None)]), (0, "routine", 1))
        self.assertEqual(refused([], [Routine("r", (), "x", None)]), (0, "routine", 2))
        self.assertEqual(refused([], [Routine("r", (), "int1", None)]), (0, "routine", 3))
        self.assertEqual(refused([], [routine("r"), Routine("s"), Routine("R")]), (1, "routine", 3))

    def test_just_valid(self):
        params = tuple((name, "A") for name in "pqst")
        body = Body(tuple((f"v{at}", "int1") for at in range(16)), ("nonsense",))
        self.assertIsNone(refused([own("A")], [Routine("r", params, "A", body), Routine("f", params, None, body)]))
        self.assertEqual(refused([own("A")], [Routine("r", (("p", "B"),), None, body)]), (0, "routine", 1))

    def test_routines_may_have_the_names_of_members(self):
        self.assertIsNone(refused([own("A", fields="a1", methods=["f"])], [routine("a"), routine("f")]))


class JustValid(unittest.TestCase):
    def test_as_much_as_there_may_be(self):
        classes = []
        for at in range(20):
            fields = tuple(Field(f"a{at}x{number}", "int8", -2 ** 63) for number in range(8))
            methods = tuple(opened(f"f{at}x{number}") for number in range(8))
            bases = tuple((f"C{base}", "shared") for base in range(max(0, at - 4), at))
            classes.append(Class(f"C{at}", bases, fields, methods, True, True))
        library = Library(classes, [routine(f"r{at}") for at in range(20)])
        self.assertEqual(len(library.introducers("C19")), 160)
        self.assertEqual(len(library.ancestors("C19")), 19)
        self.assertEqual(raised(Library, classes + [own("X")]), ("NoLibrary", -1, "classes", -1))


if __name__ == "__main__":
    unittest.main()
