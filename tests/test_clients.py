"""Clients, what they may name, and what is looked up (points 28 and 29)."""

import unittest

from oldclients.clients import Client, Resolved
from oldclients.declared import Body, Class, Field, Method, Routine
from oldclients.libraries import Library
from tests.helpers import (MINE_STEPS, Bag, bare, base_library, doing, main, mine_client, mine_resolved, oddities,
                           opened,
                           own, plain, raised, strangers, wrong_names)


def library():
    """Return a library with shown and hidden members of each kind, closed, lent and bare classes."""
    a = Class("A", (), (Field("a", "int4"), Field("ah", "int1", 0, False)),
              (opened("f", result="int4"), opened("h", shown=False), plain("p"), plain("ph", shown=False)))
    return Library([a, own("Shut", closed=True), own("Lent", lent=True), own("Bare", "", "", [bare("n")]),
                    own("B", "+A", "b2", ["h"]), own("C", "+A", "c2", ["h"]), own("E")],
                   [Routine("r", (("x", "A"),), "int2", Body()), Routine("none", (), None, Body())])


def wrong(client, lib=None):
    """Return the fields of what Resolved raises for a client, with the name of the error, or None."""
    return raised(Resolved, client, library() if lib is None else lib)


def in_classes(*classes):
    """Return the fields of NoClient for the classes of a client, or None."""
    error = wrong(Client(list(classes)))
    assert error is None or error[0] == "NoClient", error
    return error and error[1:]


class Clients(unittest.TestCase):
    def test_attributes(self):
        item = own("u")
        client = Client([item], (("x", "A"),), (("say", 1),))
        self.assertEqual((client.classes, client.variables, client.steps), ((item,), (("x", "A"),), (("say", 1),)))
        self.assertEqual((Client((item,)).classes, Client((item,)).variables, Client((item,)).steps), ((item,), (), ()))
        named = Client(classes=[], variables=(), steps=(("say", 1),))
        self.assertEqual((named.classes, named.steps), ((), (("say", 1),)))

    def test_later_changes_have_no_effect(self):
        rows = [own("u")]
        client = Client(rows)
        rows.append(own("v"))
        self.assertEqual(client.classes, (own("u"),))

    def test_equality(self):
        self.assertEqual(Client([own("u")]), Client((own("u"),)))
        self.assertEqual(Client([]), Client(()))
        self.assertEqual(mine_client(), mine_client())
        for other in (Client([own("v")]), Client([]), Client([own("u")], (("x", "A"),)),
                      Client([own("u")], (), (("say", 1),)), Client([own("u"), own("v")])):
            self.assertNotEqual(Client([own("u")]), other)
        for other in [x for x in strangers() if x is not NotImplemented] + [(), 0,
                                                                            Bag(classes=(), variables=(), steps=())]:
            self.assertFalse(Client([]) == other)
            self.assertTrue(Client([]) != other)


class Rows(unittest.TestCase):
    def test_classes_are_a_list_or_tuple_of_at_most_8(self):
        for value in [x for x in strangers() if not isinstance(x, list)] + oddities() + ["", "u", 5, own("u")]:
            self.assertEqual(wrong(Client(value, None, None)), ("NoClient", -1, "classes", -1))
        many = [own("u" + str(k)) for k in range(9)]
        self.assertEqual(wrong(Client(many)), ("NoClient", -1, "classes", -1))
        self.assertEqual(wrong(Client(tuple([5] * 9), None)), ("NoClient", -1, "classes", -1))
        self.assertIsNone(wrong(Client(many[:8])))
        self.assertIsNone(wrong(Client(tuple(many[:8]))))

    def test_main_rows_are_tuples(self):
        for value in strangers() + oddities() + ["", 5, True]:
            self.assertEqual(wrong(Client([5], value)), ("NoClient", -1, "main", -1))
            self.assertEqual(wrong(Client([5], (), value)), ("NoClient", -1, "main", -1))
        self.assertEqual(wrong(Client([5], (5,), (5,))), ("NoClient", 0, "class", -1))

    def test_main_variables(self):
        forms = ("int1", "int8", "A", "Shut", "Lent", "Bare", "mine")
        rows = tuple((f"v{k}", form) for k, form in enumerate(forms))
        self.assertIsNone(wrong(Client([own("mine")], rows)))
        self.assertIsNone(wrong(Client([], tuple((f"v{k}", "int1") for k in range(16)))))
        for pairs in [(("this", "A"),), (("x", "Q"),), (("x", "int3"),), (("X", "A"),), (("x", "A"), ("x", "int1")),
                      ("x",), (("x",),), (("x", "A", 0),), (5,), (["x", "A"],), (("", "A"),), (("x", None),),
                      (("x", "other"),), tuple((f"v{k}", "int1") for k in range(17))]:
            self.assertEqual(wrong(Client([], pairs, (5,))), ("NoClient", -1, "main", -1), pairs)
        for value in strangers() + oddities():
            self.assertEqual(wrong(Client([], (value,))), ("NoClient", -1, "main", -1))
            self.assertEqual(wrong(Client([], ((value, "A"),))), ("NoClient", -1, "main", -1))
            self.assertEqual(wrong(Client([], (("x", value),))), ("NoClient", -1, "main", -1))

    def test_classes_go_ahead_of_variables_and_these_of_bodies(self):
        bad = doing("m", [("say", None)])
        self.assertEqual(wrong(Client([own("U")], (5,), (5,))), ("NoClient", 0, "name", -1))
        self.assertEqual(wrong(Client([own("u", "", "", [bad])], (5,), (5,))), ("NoClient", -1, "main", -1))
        self.assertEqual(wrong(Client([own("u", "", "", [bad])], (), (5,))), ("NoBody", ("u", "m"), 0))


class Classes(unittest.TestCase):
    def test_right_ones(self):
        classes = [own("u", "A", "x1", ["f2"]), own("v", "u Lent", "y8"), own("w", "+B +C", "z2"), own("x", "Bare E")]
        with_h = [own("B", "+A", "b2"), own("C", "+A", "c2")]
        lib = Library([library().item(name) if name not in "BC" else with_h["BC".index(name)]
                       for name in library().names()])
        self.assertIsNone(wrong(Client(classes), lib))

    def test_class_and_name(self):
        for value in strangers() + oddities() + ["u", 5, Field("u", "int1"), Bag(name="u")]:
            self.assertEqual(in_classes(own("u"), value), (1, "class", -1))
            if not isinstance(value, str):
                self.assertEqual(in_classes(Class(value)), (0, "name", -1))
        for name in ("U", "A", "", "1u", "u_", "u" * 13, "Mine", "u "):
            self.assertEqual(in_classes(own("v"), Class(name, 5)), (1, "name", -1))
        self.assertEqual(in_classes(own("u"), own("v"), own("u")), (2, "name", -1))
        self.assertIsNone(in_classes(own("u" * 12), own("u1X")))

    def test_bases(self):
        for bases in (None, [], [("A", "plain")], "A", 5, (("A", "plain"),) * 5):
            self.assertEqual(in_classes(Class("u", bases, 5)), (0, "bases", -1))
        for base in [("Q", "plain"), ("A", "open"), ("A",), ("A", "plain", 1), "A", 5, ["A", "plain"], ("u", "plain"),
                     ("v", "plain"), ("Shut", "plain"), ("Shut", "shared"), ("A", None), (5, "plain"), ("E", "plain")]:
            self.assertEqual(in_classes(own("s"), Class("u", (("E", "plain"), base), 5), own("v")), (1, "bases", 1),
                             base)
        for value in strangers() + oddities():
            self.assertEqual(in_classes(Class("u", (value,))), (0, "bases", 0))
            self.assertEqual(in_classes(Class("u", ((value, "plain"),))), (0, "bases", 0))
            self.assertEqual(in_classes(Class("u", (("A", value),))), (0, "bases", 0))
        self.assertIsNone(in_classes(own("s"), own("u", "E s")))

    def test_the_session_of_the_document(self):
        client = Client([Class("u", (("A", "plain"),))])
        self.assertEqual(wrong(client, Library([own("A", closed=True)])), ("NoClient", 0, "bases", 0))

    def test_parts(self):
        self.assertEqual(in_classes(own("u", "A"), Class("v", (("u", "plain"), ("A", "plain")), 5)), (1, "parts", -1))
        self.assertEqual(in_classes(Class("v", (("B", "plain"), ("A", "plain")), 5)), (0, "parts", -1))
        self.assertEqual(in_classes(own("u", "E"), own("v", "E"), own("w", "u v")), (2, "parts", -1))
        self.assertIsNone(in_classes(own("u", "+E"), own("v", "+E"), own("w", "u v")))
        self.assertEqual(in_classes(own("u", "+E"), own("v", "E"), own("w", "u v")), (2, "parts", -1))

    def test_fields(self):
        for fields in (None, [], 5, tuple(Field(f"x{k}", "int1") for k in range(9))):
            self.assertEqual(in_classes(Class("u", (), fields, 5)), (0, "fields", -1))
        for field in [Field("X", "int1"), Field("x", "int3"), Field("x", "Q"), Field("x", "int1", 128),
                      Field("y", "int1"),
                      Field("x", "A", 1), Field("x", "int1", 0, 1), Field("x", "v2"), 5, "x", plain("x")]:
            item = Class("u", (), (Field("y", "int1"), field), 5)
            self.assertEqual(in_classes(own("t"), item), (1, "fields", 1), field)
        for value in strangers() + oddities():
            self.assertEqual(in_classes(Class("u", (), (value,))), (0, "fields", 0))
            self.assertEqual(in_classes(Class("u", (), (Field("x", value),))), (0, "fields", 0))
        forms = (Field("x", "v"), Field("y", "u"), Field("z", "Shut"), Field("h", "int1", -128, False))
        self.assertIsNone(in_classes(Class("u", (), forms), own("v")))

    def test_methods(self):
        for methods in (None, [], 5, tuple(plain(f"x{k}") for k in range(9))):
            self.assertEqual(in_classes(Class("u", (), (), methods)), (0, "methods", -1))
        item = Class("u", (), (Field("x", "int1"),))
        body = Body((("p", "int1"),))
        for method in [plain("x"), plain("X"), plain("m"), Method("n", "shut", body=Body()), Method("n", "open"),
                       Method("n", "bare", body=Body()), plain("n", (("this", "A"),)), plain("n", (), "Q"),
                       Method("n", "open", (("p", "int1"),), None, body), Method("n", "plain", (), None, Body(), 1),
                       plain("n", tuple((f"p{k}", "int1") for k in range(5))), 5, Field("n", "int1"),
                       Method("n", "open", (), None, Body((), [])), plain("n", (("p", "v2"),))]:
            wrong_one = Class(item.name, (), item.fields, (plain("m"), method))
            self.assertEqual(in_classes(own("t"), wrong_one), (1, "methods", 1), method)
        for value in strangers() + oddities():
            self.assertEqual(in_classes(Class("u", (), (), (value,))), (0, "methods", 0))
        self.assertIsNone(in_classes(own("u", "", "", [plain("m", (("p", "v"),), "u"), bare("n", (("q", "Lent"),))]),
                                     own("v")))

    def test_names(self):
        for member in (plain("a"), opened("a"), plain("f", result="int4"), opened("f"), opened("f", result="int2"),
                       opened("f", params=(("p", "int1"),), result="int4"), plain("p"), opened("p"), bare("f")):
            self.assertEqual(in_classes(own("t"), own("u", "A", "", [member])), (1, "names", -1), member)
        for field in ("a1", "f1", "p1"):
            self.assertEqual(in_classes(own("u", "A"), own("v", "u", field)), (1, "names", -1))
        for member in (opened("f", result="int4"), bare("f", result="int4"), opened("f", result="int4", shown=False)):
            self.assertIsNone(in_classes(own("u", "A", "", [member])))

    def test_names_of_the_clients_own_classes(self):
        first = own("u", "", "x1", [opened("g"), plain("q"), opened("gh", shown=False), plain("qh", shown=False)])
        for member in (plain("x"), opened("q"), plain("g"), opened("g", result="int1"), opened("qh"), plain("gh"),
                       opened("gh", result="A")):
            self.assertEqual(in_classes(first, own("v", "u", "", [member])), (1, "names", -1), member)
        self.assertEqual(in_classes(first, own("v", "u", "qh1")), (1, "names", -1))
        self.assertIsNone(in_classes(first, own("v", "u", "", [opened("g"), bare("gh", shown=False)])))

    def test_what_clients_may_not_name_does_not_count(self):
        for member in (plain("ah"), opened("ah"), plain("h"), opened("h"), opened("h", result="int2"), bare("h"),
                       plain("ph"), opened("ph", params=(("z", "int1"),))):
            self.assertIsNone(in_classes(own("u", "A", "", [member])), member)
        for field in ("ah4", "h4", "ph4"):
            self.assertIsNone(in_classes(own("u", "A", field)))

    def test_two_bases_of_which_one_hides_the_name(self):
        shown, other = own("P", "", "", [opened("m")]), own("Q", "", "", [opened("m", result="int1")])
        hidden = own("Q", "", "", [opened("m", result="int1", shown=False)])
        field = Class("Q", (), (Field("m", "int1"),))
        client = Client([own("u", "P Q")])
        self.assertEqual(wrong(client, Library([shown, other])), ("NoClient", 0, "names", -1))
        self.assertEqual(wrong(client, Library([shown, field])), ("NoClient", 0, "names", -1))
        self.assertIsNone(wrong(client, Library([shown, hidden])))
        self.assertEqual(wrong(Client([own("u", "P Q", "m1")]), Library([shown, hidden])), ("NoClient", 0, "names", -1))

    def test_the_mark_is_the_one_where_a_method_was_introduced(self):
        hides = Library([own("A", "", "", [opened("m")]), own("B", "A", "", [opened("m", shown=False)])])
        shows = Library([own("A", "", "", [opened("m", shown=False)]), own("B", "A", "", [opened("m")])])
        self.assertEqual(wrong(Client([own("u", "B", "m1")]), hides), ("NoClient", 0, "names", -1))
        self.assertIsNone(wrong(Client([own("u", "B", "m1")]), shows))
        self.assertEqual(Resolved(Client([]), hides).found("B", "m"), ("open", "A", "m"))
        self.assertIsNone(Resolved(Client([]), shows).found("B", "m"))

    def test_overrides(self):
        # B and C override the hidden h of their shared base A: a class with both has no last override of it
        self.assertEqual(in_classes(own("u", "B C")), (0, "overrides", -1))
        self.assertEqual(in_classes(own("u", "B C", "", ["h"])), (0, "overrides", -1))
        self.assertEqual(in_classes(own("u", "+A", "", [opened("f", result="int4")]),
                                    own("v", "+A", "", [opened("f", result="int4")]), own("w", "u v")),
                         (2, "overrides", -1))
        self.assertIsNone(in_classes(own("u", "+A", "", [opened("f", result="int4")]),
                                     own("v", "+A", "", [opened("f", result="int4")]),
                                     own("w", "u v", "", [opened("f", result="int4")])))

    def test_overriding_a_shown_method_overrides_hidden_ones_with_the_same_forms(self):
        root = own("R", "", "", [opened("m", shown=False)])
        left, right = own("P", "+R", "", ["m"]), own("Q", "+R", "", ["m"])
        other = own("S", "", "", [opened("m")])
        lib = Library([root, left, right, other])
        self.assertEqual(wrong(Client([own("u", "P Q")]), lib), ("NoClient", 0, "overrides", -1))
        self.assertEqual(wrong(Client([own("u", "P Q", "", ["m"])]), lib), ("NoClient", 0, "overrides", -1))
        self.assertIsNone(wrong(Client([own("u", "P Q S", "", ["m"])]), lib))
        forms = own("S", "", "", [opened("m", result="int1")])
        self.assertEqual(wrong(Client([own("u", "P Q S", "", [opened("m", result="int1")])]),
                               Library([root, left, right, forms])), ("NoClient", 0, "overrides", -1))

    def test_marks(self):
        for closed, lent in ((True, False), (False, True), (True, True), (0, False), (False, 0), (None, False), (1, 1)):
            self.assertEqual(in_classes(own("t"), own("u", closed=closed, lent=lent)), (1, "marks", -1))

    def test_the_first_invalid_class(self):
        self.assertEqual(in_classes(own("u", closed=True), 5), (0, "marks", -1))
        self.assertEqual(in_classes(own("u"), own("u"), 5), (1, "name", -1))

    def test_the_order_of_the_parts(self):
        rows = [Field("a", "int1")], Field("a", "int1")
        item = Class("u", (("A", "plain"), ("B", "plain")), rows[0], None, 1, 1)
        self.assertEqual(in_classes(item), (0, "parts", -1))
        item = Class("u", (("A", "plain"),), rows[0], None, 1, 1)
        self.assertEqual(in_classes(item), (0, "fields", -1))
        item = Class("u", (("A", "plain"),), (rows[1],), None, 1, 1)
        self.assertEqual(in_classes(item), (0, "methods", -1))
        item = Class("u", (("A", "plain"),), (rows[1],), (), 1, 1)
        self.assertEqual(in_classes(item), (0, "names", -1))
        item = Class("u", (("B", "plain"), ("C", "plain")), (), (), 1, 1)
        self.assertEqual(in_classes(item), (0, "overrides", -1))


class Bodies(unittest.TestCase):
    def at(self, variables, *steps, classes=()):
        """Return (where, at) of NoBody for a main routine, None if it is right."""
        error = wrong(main(variables, *steps, classes=classes))
        assert error is None or error[0] == "NoBody", error
        return error and error[1:]

    def test_hidden_things_of_the_library(self):
        every = "x:A b:B i:int4 u:u"
        heir = own("u", "A")
        for holder in "xbu":
            for step in [("get", "i", holder, "a"), ("put", holder, "a", 1), ("call", "i", holder, "f", ()),
                         ("call", None, holder, "p", ())]:
                self.assertIsNone(self.at(every, step, classes=[heir]))
            for step in [("get", "i", holder, "ah"), ("put", holder, "ah", 1), ("call", None, holder, "h", ()),
                         ("call", None, holder, "ph", ())]:
                self.assertEqual(self.at(every, step, classes=[heir]), (("", ""), 0), step)
                inside = own("u", "A", "", [doing("m", [step], (("x", "A"), ("b", "B"), ("u", "u"), ("i", "int4")))])
                self.assertEqual(self.at("", classes=[inside]), (("u", "m"), 0), step)
        self.assertEqual(self.at("", classes=[own("u", "A", "", [doing("m", [("call", None, "this", "h", ())])])]),
                         (("u", "m"), 0))

    def test_hidden_things_of_its_own(self):
        item = Class("u", (("A", "plain"),), (Field("z", "int1", 0, False), Field("ah", "int2")),
                     (plain("ph", shown=False), opened("h", shown=False, result="int1")))
        steps = [("get", "i", "y", "z"), ("get", "i", "y", "ah"), ("call", None, "y", "ph", ()),
                 ("call", "i", "y", "h", ())]
        self.assertIsNone(self.at("y:u i:int4", *steps, classes=[item]))
        client = Resolved(main("y:u i:int4", *steps, classes=[item]), library())
        self.assertEqual(client.statements(("", "")), (
            ("get", "i", "y", ("field", "u", "z")), ("get", "i", "y", ("field", "u", "ah")),
            ("call", None, "y", ("plain", "u", "ph"), ()), ("call", "i", "y", ("open", "u", "h"), ())))
        self.assertEqual(client.found("u", "ah"), ("field", "u", "ah"))
        self.assertIsNone(client.found("A", "ah"))
        heir = own("v", "u")
        self.assertIsNone(self.at("y:v i:int4", *steps, classes=[item, heir]))

    def test_lent_closed_and_bare_classes(self):
        self.assertEqual(self.at("x:Lent", ("say", 1), ("new", "x", "Lent")), (("", ""), 1))
        self.assertIsNone(self.at("x:Lent", ("new", "x", "u"), classes=[own("u", "Lent")]))
        self.assertIsNone(self.at("x:Shut", ("new", "x", "Shut")))
        self.assertEqual(self.at("x:Bare", ("new", "x", "Bare")), (("", ""), 0))
        self.assertEqual(self.at("x:Bare", ("new", "x", "u"), classes=[own("u", "Bare")]), (("", ""), 0))
        self.assertIsNone(self.at("x:Bare", ("new", "x", "u"), classes=[own("u", "Bare", "", ["n"])]))
        self.assertEqual(self.at("x:u", ("new", "x", "u"), classes=[own("u", "", "", [bare("m")])]), (("", ""), 0))

    def test_a_hidden_bare_method_makes_a_class_bare(self):
        lib = Library([own("P", "", "", [bare("m", shown=False)])])
        client = main("x:P", ("new", "x", "u"), classes=[own("u", "P", "", ["m"])])
        self.assertEqual(wrong(client, lib), ("NoBody", ("", ""), 0))

    def test_routines_and_return(self):
        self.assertIsNone(self.at("x:A i:int1", ("do", "i", "r", ("x",)), ("do", None, "none", ()), ("return", None)))
        self.assertEqual(self.at("", ("return", 0)), (("", ""), 0))
        self.assertEqual(self.at("", ("do", None, "q", ())), (("", ""), 0))
        self.assertEqual(self.at("x:A", ("set", "this", "x")), (("", ""), 0))
        self.assertEqual(self.at("x:A", ("set", "x", "this")), (("", ""), 0))

    def test_casts_need_an_open_class(self):
        self.assertIsNone(self.at("x:A u:u", ("cast", "x", "u"), classes=[own("u", "A")]))
        self.assertEqual(self.at("x:E u:u", ("cast", "x", "u"), classes=[own("u", "E")]), (("", ""), 0))
        self.assertEqual(self.at("x:A e:E", ("cast", "x", "e")), (("", ""), 0))

    def test_the_order_of_bodies(self):
        bad = [("say", None)]
        first = own("u", "", "", [doing("a", []), doing("b", [("say", 1)] + bad)])
        second = own("v", "", "", [bare("c"), doing("d", bad, kind="plain")])
        self.assertEqual(self.at("", *bad, classes=[first, second]), (("u", "b"), 1))
        self.assertEqual(self.at("", *bad, classes=[own("u"), second]), (("v", "d"), 0))
        self.assertEqual(self.at("", ("say", 1), *bad, classes=[own("u")]), (("", ""), 1))

    def test_as_many_and_as_deep_as_in_libraries(self):
        one = ("say", 1)
        self.assertIsNone(self.at("", *[one] * 40))
        self.assertEqual(self.at("", *[one] * 41), (("", ""), 40))
        for _ in range(6):
            one = ("while", 1, (one,))
        self.assertIsNone(self.at("", one))
        self.assertEqual(self.at("", ("if", 1, (), (one,))), (("", ""), 7))
        self.assertEqual(self.at("", ("if", 1, (("say", 1), ("say", None)), ())), (("", ""), 2))


class LookedUp(unittest.TestCase):
    def test_the_document(self):
        client = mine_resolved()
        self.assertEqual(client.statements(("", ""))[1], ("call", "i", "x", ("open", "Base", "f"), ()))
        self.assertEqual((client.client, client.library), (mine_client(), base_library()))
        self.assertEqual(client.statements(where=("mine", "f")), (("return", 7),))
        self.assertEqual(client.statements(("", "")), (MINE_STEPS[0], ("call", "i", "x", ("open", "Base", "f"), ()),
                                                       MINE_STEPS[2]))

    def test_things_inside_others(self):
        steps = (("if", "i", (("get", "i", "x", "a"), ("while", "x", (("put", "x", "a", 1),))),
                  (("call", None, "x", "p", ()), ("do", None, "none", ()))),)
        client = Resolved(main("x:A i:int4", *steps), library())
        a = ("field", "A", "a")
        self.assertEqual(client.statements(("", "")), (
            ("if", "i", (("get", "i", "x", a), ("while", "x", (("put", "x", a, 1),))),
             (("call", None, "x", ("plain", "A", "p"), ()), ("do", None, "none", ()))),))

    def test_no_such_body(self):
        client = Resolved(Client([own("u", "A", "", [bare("m"), plain("n")])]), library())
        self.assertEqual(client.statements(("u", "n")), ())
        for where in strangers() + oddities() + ["", ("",), ("", "", ""), ("u", "m"), ("A", "f"), ("", "r"), ["", ""],
                                                 ("u", ""), ("u", 5), (None, "n"), 5, ([], ""), (oddities()[1], "n")]:
            self.assertEqual(raised(client.statements, where), ("NoMember", where))

    def test_found(self):
        item = Class("u", (("B", "plain"),), (Field("z", "int1", 0, False),), (opened("f", result="int4"), plain("q")))
        client = Resolved(Client([item]), library())
        wanted = {("A", "a"): ("field", "A", "a"), ("A", "ah"): None, ("B", "f"): ("open", "A", "f"), ("B", "h"): None,
                  ("u", "z"): ("field", "u", "z"), ("u", "f"): ("open", "A", "f"), ("u", "q"): ("plain", "u", "q"),
                  ("u", "a"): ("field", "A", "a"), ("u", "b"): ("field", "B", "b"), ("u", "h"): None, ("u", "ph"): None,
                  ("u", "p"): ("plain", "A", "p"), ("E", "a"): None, ("u", ""): None, ("u", "u"): None}
        for (name, member), thing in wanted.items():
            self.assertEqual(client.found(name, member), thing, (name, member))
        self.assertEqual(client.found(name="u", member="a"), ("field", "A", "a"))
        for name in [x for x in wrong_names() if not (isinstance(x, str) and x == "A")] + ["v", "int4"]:
            self.assertEqual(raised(client.found, name, 5), ("NoClass", name))
        for member in strangers() + oddities() + [5, True, ("a",)]:
            self.assertEqual(raised(client.found, "u", member), ("NoMember", member))

    def test_found_goes_by_the_order_of_calls(self):
        lib = Library([own("P", "", "", [opened("m")]), own("Q", "", "", [opened("m", shown=False)])])
        client = Resolved(Client([own("u", "Q P"), own("v", "P Q"), own("w", "Q", "", ["m"]), own("x", "w P")]), lib)
        self.assertEqual([client.found(name, "m") for name in ("u", "v", "w", "x")],
                         [("open", "P", "m"), ("open", "P", "m"), ("open", "w", "m"), ("open", "w", "m")])

    def test_equality(self):
        self.assertEqual(mine_resolved(), mine_resolved())
        self.assertEqual(Resolved(Client([]), library()), Resolved(Client(()), library()))
        self.assertNotEqual(Resolved(Client([]), library()), Resolved(Client([]), base_library()))
        self.assertNotEqual(Resolved(Client([]), library()), Resolved(main("i:int1"), library()))
        for other in [x for x in strangers() if x is not NotImplemented] + [Client([]), library(),
                                                                            Bag(client=Client([]), library=library())]:
            self.assertFalse(Resolved(Client([]), library()) == other)

    def test_it_takes_its_arguments_by_name(self):
        self.assertEqual(Resolved(client=mine_client(), library=base_library()), mine_resolved())


if __name__ == "__main__":
    unittest.main()
