"""The code of clients: rows of statements, classes, and code with other libraries (points 31 to 34)."""

import unittest

from oldclients.clients import Client, Resolved
from oldclients.compiler import Code
from oldclients.declared import Body, Class, Field, Method, Routine
from oldclients.libraries import Library
from tests.helpers import (Bag, bare, base_library, main, mine_client, mine_resolved, opened, own, plain, raised,
                           strangers)

A = Class("A", (), (Field("a", "int4"), Field("q", "A"), Field("w", "B"), Field("z", "int1")),
          (opened("f", params=(("p", "int2"), ("r", "A")), result="int8"), opened("g", result="B"), opened("v"),
           plain("p", (("x", "A"), ("i", "int1"), ("y", "A")), "B"), plain("n")))
F = own("F", "", "x2")
CLASSES = [A, F, own("B", "F A", "b2"), own("S", "+B", "s1", ["n2"]), own("T", "+A +F", "t1")]
ROUTINES = [Routine("r", (("x", "A"), ("i", "int1"), ("y", "A")), "B", Body()), Routine("none", (), None, Body()),
            Routine("num", (), "int2", Body())]
VARIABLES = "i:int1 j:int2 k:int4 m:int8 a:A b:B s:S t:T x:F"


def library():
    """Return a library in which moves go by places and by ways."""
    return Library(CLASSES, ROUTINES)


def body(*steps, classes=(), variables=VARIABLES):
    """Return the code of a main routine."""
    return Code(Resolved(main(variables, *steps, classes=classes), library())).bodies[-1][1]


def row(*args, **named):
    """Return the row of a single statement of a main routine."""
    params, size, rows = body(*args, **named)
    assert (params, size, len(rows)) == ((), 8, 1)
    return rows[0]


class Rows(unittest.TestCase):
    # B: A at 0 (primary), F behind it; S: B by the way -3; T: A by -3, F by -4
    def test_set(self):
        self.assertEqual(row(("set", "i", 300)), (("set", "i", 300, 1),))
        self.assertEqual(row(("set", "j", "m")), (("set", "j", "m", 2),))
        self.assertEqual(row(("set", "k", "k")), (("set", "k", "k", 4),))
        self.assertEqual(row(("set", "m", -1)), (("set", "m", -1, 8),))
        self.assertEqual(row(("set", "a", "a")), (("set", "a", "a", 8),))
        self.assertEqual(row(("set", "a", None)), (("set", "a", 0, 8),))
        self.assertEqual(row(("set", "a", "b")), (("move", "a", "b", ("place", 0)),))
        self.assertEqual(row(("set", "x", "b")), (("move", "x", "b", ("place", 34)),))
        self.assertEqual(row(("set", "b", "s")), (("move", "b", "s", ("way", -3, 0)),))
        self.assertEqual(row(("set", "x", "s")), (("move", "x", "s", ("way", -3, 34)),))
        self.assertEqual(row(("set", "x", "t")), (("move", "x", "t", ("way", -4, 0)),))

    def test_add_less_say_and_return(self):
        self.assertEqual(row(("add", "i", 1, "m")), (("add", "i", 1, "m", 1),))
        self.assertEqual(row(("add", "m", "i", -5)), (("add", "m", "i", -5, 8),))
        self.assertEqual(row(("less", "k", "k", 2)), (("less", "k", "k", 2, 4),))
        self.assertEqual(row(("say", 5)), (("say", 5),))
        self.assertEqual(row(("say", "i")), (("say", "i"),))
        self.assertEqual(row(("return", None)), (("return", 0),))

    def test_new(self):
        self.assertEqual(row(("new", "x", "F")), (("make", "1", "F", 2), ("set", "x", "1", 8)))
        self.assertEqual(row(("new", "a", "B")), (("make", "1", "B", 40), ("move", "a", "1", ("place", 0))))
        self.assertEqual(row(("new", "b", "S")), (("make", "1", "S", 56), ("move", "b", "1", ("way", -3, 0))))
        self.assertEqual(row(("new", "x", "u"), classes=[own("u", "T", "o8")]), (
            ("make", "1", "u", 72), ("move", "x", "1", ("way", -4, 0))))

    def test_get_and_put(self):
        self.assertEqual(row(("get", "k", "a", "a")), (("load", "1", "a", ("place", 8), 4), ("set", "k", "1", 4)))
        self.assertEqual(row(("get", "i", "b", "a")), (("load", "1", "b", ("place", 8), 4), ("set", "i", "1", 1)))
        self.assertEqual(row(("get", "m", "s", "a")), (("load", "1", "s", ("way", -3, 8), 4), ("set", "m", "1", 8)))
        self.assertEqual(row(("get", "a", "a", "q")), (("load", "1", "a", ("place", 16), 8), ("set", "a", "1", 8)))
        self.assertEqual(row(("get", "x", "t", "w")), (("load", "1", "t", ("way", -3, 24), 8),
                                                       ("move", "x", "1", ("place", 34))))
        self.assertEqual(row(("put", "a", "z", "m")), (("store", "a", ("place", 32), 1, "m"),))
        self.assertEqual(row(("put", "s", "b", 7)), (("store", "s", ("way", -3, 36), 2, 7),))
        self.assertEqual(row(("put", "a", "q", None)), (("store", "a", ("place", 16), 8, 0),))
        self.assertEqual(row(("put", "a", "q", "a")), (("store", "a", ("place", 16), 8, "a"),))
        self.assertEqual(row(("put", "t", "q", "s")), (("move", "1", "s", ("way", -3, 0)),
                                                       ("store", "t", ("way", -3, 16), 8, "1")))

    def test_call(self):
        self.assertEqual(row(("call", None, "a", "v", ())), (("call", "1", "a", ("place", 0), 2, ()),))
        self.assertEqual(row(("call", "i", "s", "f", (5, "a"))), (("call", "1", "s", ("way", -3, 0), 0, (5, "a")),
                                                                  ("set", "i", "1", 1)))
        self.assertEqual(row(("call", "m", "b", "f", ("i", "s"))), (
            ("move", "1", "s", ("way", -3, 0)), ("call", "2", "b", ("place", 0), 0, ("i", "1")), ("set", "m", "2", 8)))
        self.assertEqual(row(("call", "b", "t", "g", ())), (("call", "1", "t", ("way", -3, 0), 1, ()),
                                                            ("set", "b", "1", 8)))
        self.assertEqual(row(("call", "x", "a", "g", ())), (("call", "1", "a", ("place", 0), 1, ()),
                                                            ("move", "x", "1", ("place", 34))))
        self.assertEqual(row(("call", None, "s", "n2", ())), (("call", "1", "s", ("place", 0), 0, ()),))

    def test_link(self):
        self.assertEqual(row(("call", None, "t", "n", ())), (("link", "1", "t", ("way", -3, 0), ("A", "n"), ()),))
        self.assertEqual(row(("call", "a", "b", "p", ("s", "k", None))), (
            ("move", "1", "s", ("way", -3, 0)), ("link", "2", "b", ("place", 0), ("A", "p"), ("1", "k", 0)),
            ("move", "a", "2", ("place", 0))))
        self.assertEqual(row(("call", None, "a", "p", ("t", 1, "b"))), (
            ("move", "1", "t", ("way", -3, 0)), ("move", "2", "b", ("place", 0)),
            ("link", "3", "a", ("place", 0), ("A", "p"), ("1", 1, "2"))))

    def test_do_and_cast(self):
        self.assertEqual(row(("do", None, "none", ())), (("do", "1", "none", ()),))
        self.assertEqual(row(("do", "i", "num", ())), (("do", "1", "num", ()), ("set", "i", "1", 1)))
        self.assertEqual(row(("do", "b", "r", ("a", 1, "b"))), (
            ("move", "1", "b", ("place", 0)), ("do", "2", "r", ("a", 1, "1")), ("set", "b", "2", 8)))
        self.assertEqual(row(("do", "x", "r", (None, "m", None))), (
            ("do", "1", "r", (0, "m", 0)), ("move", "x", "1", ("place", 34))))
        self.assertEqual(row(("cast", "x", "a")), (("cast", "x", "a", "F"),))
        self.assertEqual(row(("cast", "a", "a")), (("cast", "a", "a", "A"),))

    def test_helping_variables_are_numbered_in_each_statement(self):
        _, _, rows = body(("new", "x", "F"), ("new", "x", "F"), ("call", None, "a", "p", ("b", 1, "s")),
                          ("do", "i", "num", ()))
        self.assertEqual([instruction[1] for one in rows for instruction in one],
                         ["1", "x", "1", "x", "1", "2", "3", "1", "i"])

    def test_if(self):
        say = {k: ("say", k) for k in range(9)}
        _, _, rows = body(("if", "i", (say[1], say[2]), (say[3],)), say[4])
        self.assertEqual(rows, ((("if", "i", 4),), (say[1],), (say[2],), (("goto", 5),), (say[3],), (say[4],)))
        _, _, rows = body(("if", 0, (), ()))
        self.assertEqual(rows, ((("if", 0, 2),), (("goto", 2),)))
        _, _, rows = body(("if", "a", (), (say[1],)))
        self.assertEqual(rows, ((("if", "a", 2),), (("goto", 3),), (say[1],)))

    def test_while(self):
        say = ("say", 1)
        _, _, rows = body(say, ("while", "b", (say, say)), say)
        self.assertEqual(rows, ((say,), (("if", "b", 5),), (say,), (say,), (("goto", 1),), (say,)))
        _, _, rows = body(("while", -1, ()))
        self.assertEqual(rows, ((("if", -1, 2),), (("goto", 0),)))

    def test_inside_one_another(self):
        say = ("say", 1)
        _, _, rows = body(("while", "i", (say, ("if", "j", (("while", "k", (say,)),), (say,)))), say)
        self.assertEqual(rows, (
            (("if", "i", 9),), (say,), (("if", "j", 7),), (("if", "k", 6),), (say,), (("goto", 3),), (("goto", 8),),
            (say,), (("goto", 0),), (say,)))
        _, _, rows = body(("if", 1, (("if", 2, (say,), ()),), (("if", 3, (), (say,)),)))
        self.assertEqual(rows, (
            (("if", 1, 5),), (("if", 2, 4),), (say,), (("goto", 4),), (("goto", 8),), (("if", 3, 7),), (("goto", 8),),
            (say,)))

    def test_no_statements(self):
        self.assertEqual(body(), ((), 8, ()))

    def test_this_parameters_and_results(self):
        steps = (("set", "x", "this"), ("put", "this", "own", "i"), ("call", None, "this", "p", ("y", "i", "this")),
                 ("return", "this"))
        method = Method("m", "plain", (("i", "int1"), ("y", "S"), ("j", "int4")), "A", Body((("x", "B"),), steps))
        small = Method("k", "open", (), "int2", Body((), (("return", -5),)))
        none = Method("o", "open", (), "F", Body((), (("return", None),)))
        mine = own("u", "B", "own1", [method, small, bare("l"), none])
        code = Code(Resolved(Client([mine]), library()))
        self.assertEqual(code.bodies, (
            (("u", "m"), ((("i", 1), ("y", 8), ("j", 4)), 8, (
                (("move", "x", "this", ("place", 0)),), (("store", "this", ("place", 38), 1, "i"),),
                (("move", "1", "y", ("way", -3, 0)), ("move", "2", "this", ("place", 0)),
                 ("link", "3", "this", ("place", 0), ("A", "p"), ("1", "i", "2"))),
                (("move", "1", "this", ("place", 0)), ("return", "1"))))),
            (("u", "k"), ((), 2, ((("return", -5),),))),
            (("u", "o"), ((), 8, ((("return", 0),),))),
            (("", ""), ((), 8, ()))))

    def test_members_of_the_clients_own_classes(self):
        first = own("u", "B", "k4", ["h", plain("l")])
        heir = own("v", "+u", "o1", ["h"])
        variables = "u:u v:v i:int4"
        self.assertEqual(row(("get", "i", "v", "k"), classes=[first, heir], variables=variables),
                         (("load", "1", "v", ("way", -3, 40), 4), ("set", "i", "1", 4)))
        self.assertEqual(row(("call", None, "u", "h", ()), classes=[first, heir], variables=variables),
                         (("call", "1", "u", ("place", 0), 3, ()),))
        self.assertEqual(row(("call", None, "v", "h", ()), classes=[first, heir], variables=variables),
                         (("call", "1", "v", ("way", -3, 0), 3, ()),))
        self.assertEqual(row(("call", None, "v", "l", ()), classes=[first, heir], variables=variables),
                         (("link", "1", "v", ("way", -3, 0), ("u", "l"), ()),))
        self.assertEqual(row(("put", "u", "x", 1), classes=[first, heir], variables=variables),
                         (("store", "u", ("place", 34), 2, 1),))

    def test_the_document(self):
        bodies = Code(mine_resolved()).bodies
        self.assertEqual([where for where, _ in bodies], [("mine", "f"), ("", "")])
        self.assertEqual(bodies[1][1][2][1], (("call", "1", "x", ("place", 0), 0, ()), ("set", "i", "1", 4)))


def classes_of(*classes, lib=None, later=None):
    """Return the codes of the classes of a client."""
    return Code(Resolved(Client(list(classes)), library() if lib is None else lib), later).classes


class Classes(unittest.TestCase):
    def test_the_document(self):
        self.assertEqual(Code(mine_resolved()).classes, (
            ("mine", 16, (("mine", 0), ("Leaf", 0), ("Base", 0)), ((0, (), ((("mine", "f"), 0),)),),
             ((("Leaf", 0),), ()),
             (("k", 14, 2, 0),)),))

    def test_flat_classes(self):
        fields = (Field("a", "int1", -5), Field("b", "u", 0, False), Field("c", "int4", 7))
        self.assertEqual(classes_of(Class("u", (), fields), own("v"), own("w", "F v", "n1")), (
            ("u", 24, (("u", 0),), (), ((), ()), (("a", 0, 1, -5), ("b", 8, 8, 0), ("c", 16, 4, 7))),
            ("v", 1, (("v", 0),), (), ((), ()), ()),
            ("w", 4, (("w", 0), ("F", 0), ("v", 2)), (), ((("F", 0), ("v", 2)), ()), (("n", 3, 1, 0),))))

    def test_ways_shifts_and_starts(self):
        over = opened("f", params=(("p", "int2"), ("r", "A")), result="int8")
        (code,) = classes_of(own("u", "T +S", "i1", [over, "o"]),
                             lib=Library([A, F, own("S", "", "s1", ["n2"]), own("B"),
                                                                               own("T", "+A +F", "t1")]))
        self.assertEqual(code, (
            "u", 80, (("u", 0), ("T", 0), ("A", 16), ("F", 56), ("S", 64)),
            ((0, (16, 56, 64), ((("u", "o"), 0),)),
             (16, (), ((("u", "f"), -16), (("A", "g"), 0), (("A", "v"), 0))),
             (64, (), ((("S", "n2"), 0),))),
            ((("T", 0),), (("A", 16), ("F", 56), ("S", 64))), (("i", 9, 1, 0),)))

    def test_bare_last_overrides_have_entries(self):
        lib = Library([own("P", "", "", [bare("m"), "n"])])
        (first, second) = classes_of(own("u", "P", "", [bare("n"), bare("o")]), own("v", "u", "", ["m"]), lib=lib)
        self.assertEqual(first[3], ((0, (), ((("P", "m"), 0), (("u", "n"), 0), (("u", "o"), 0))),))
        self.assertEqual(second[3], ((0, (), ((("v", "m"), 0), (("u", "n"), 0), (("u", "o"), 0))),))

    def test_hidden_methods_of_one_name(self):
        lib = Library([own("P", "", "", [opened("m", shown=False)]), own("Q", "", "", [opened("m")]),
                       own("R", "", "", [opened("m", shown=False, result="int1")])])
        (first, second, third) = classes_of(own("u", "P", "", [opened("m")]), own("v", "P Q R", "", [opened("m")]),
                                            own("w", "u Q"), lib=lib)
        # u does not override the hidden m: it introduces one of its own
        self.assertEqual(first[3], ((0, (), ((("P", "m"), 0), (("u", "m"), 0))),))
        # v overrides the shown one and so the hidden one with the same forms
        self.assertEqual(second[3], ((0, (), ((("v", "m"), 0),)), (8, (), ((("v", "m"), -8),)),
                                     (16, (), ((("R", "m"), 0),))))
        self.assertEqual(third[3], ((0, (), ((("P", "m"), 0), (("u", "m"), 0))), (8, (), ((("Q", "m"), 0),))))

    def test_a_class_below_one_with_its_own_method(self):
        lib = Library([own("P", "", "", [opened("m", shown=False)]), own("Q", "", "", [opened("m")])])
        rows = classes_of(own("u", "P", "", ["m"]), own("v", "u", "", ["m"]), own("w", "u Q", "", ["m"]), lib=lib)
        self.assertEqual(rows[1][3], ((0, (), ((("P", "m"), 0), (("v", "m"), 0))),))
        self.assertEqual(rows[2][3], ((0, (), ((("w", "m"), 0), (("w", "m"), 0))), (8, (), ((("w", "m"), -8),))))


class Later(unittest.TestCase):
    def test_numbers_of_a_later_library(self):
        rows = [Class("Base", (), (Field("w", "int8", 0, False), Field("n", "int4", 5)),
                      (opened("e"), opened("f", result="int4"))),
                own("Leaf", "Base", "m1")]
        code = Code(mine_resolved(), Library(rows))
        self.assertEqual(code.classes, (
            ("mine", 24, (("mine", 0), ("Leaf", 0), ("Base", 0)), ((0, (), ((("Base", "e"), 0), (("mine", "f"), 0))),),
             ((("Leaf", 0),), ()), (("k", 22, 2, 0),)),))
        self.assertEqual(code.bodies[1][1][2], (
            (("make", "1", "mine", 24), ("move", "x", "1", ("place", 0))),
            (("call", "1", "x", ("place", 0), 1, ()), ("set", "i", "1", 4)), (("say", "i"),)))
        self.assertNotEqual(code, Code(mine_resolved()))

    def test_alike(self):
        later = Library([own("New"), *[base_library().item(name) for name in ("Base", "Leaf")], own("More", "Leaf")])
        self.assertEqual(Code(mine_resolved(), later), Code(mine_resolved()))
        self.assertEqual(Code(resolved=mine_resolved(), library=base_library()), Code(mine_resolved()))

    def test_new_methods_of_later_versions(self):
        old = Library([own("P", "", "", [opened("m")]), own("Q")])
        client = Resolved(Client([own("u", "P Q", "", ["m", "k", plain("l")]), own("v", "Q", "", ["m"])]), old)
        # Q has an m, a k and an l now: u overrides m of Q, but none of the others; v introduces its own m
        new = Library([own("P", "", "", [opened("m")]), own("Q", "", "", [opened("m", shown=False), "k", "l"])])
        first, second = Code(client, new).classes
        self.assertEqual(first[3], ((0, (), ((("u", "m"), 0), (("u", "k"), 0))),
                                    (8, (), ((("u", "m"), -8), (("Q", "k"), 0), (("Q", "l"), 0)))))
        self.assertEqual(second[3], ((0, (), ((("Q", "m"), 0), (("Q", "k"), 0), (("Q", "l"), 0), (("v", "m"), 0))),))
        # with other forms it is not overridden
        forms = Library([own("P", "", "", [opened("m")]), own("Q", "", "", [opened("m", result="int1")])])
        self.assertEqual(Code(client, forms).classes[0][3], ((0, (), ((("u", "m"), 0), (("u", "k"), 0))),
                                                             (8, (), ((("Q", "m"), 0),))))

    def test_missing_last_overrides(self):
        root = own("R", "", "", [opened("m", result="int4")])
        old = Library([root, own("P", "+R", "p1"), own("Q", "+R", "q1")])
        client = Resolved(Client([own("u", "P Q")]), old)
        over = opened("m", result="int4")
        new = Library([root, own("P", "+R", "p1", [over]), own("Q", "+R", "q1", [over])])
        places = (("u", 0), ("P", 0), ("Q", 16), ("R", 32))
        starts = ((("P", 0), ("Q", 16)), (("R", 32),))
        self.assertEqual(Code(client).classes, (
            ("u", 40, places, ((0, (32,), ()), (16, (16,), ()), (32, (), ((("R", "m"), 0),))), starts, ()),))
        self.assertEqual(Code(client, new).classes, (
            ("u", 40, places, ((0, (32,), ()), (16, (16,), ()), (32, (), ((("", "m"), 0),))), starts, ()),))
        overrider = Resolved(Client([own("u", "P Q", "", [over])]), old)
        self.assertEqual(Code(overrider, new).classes[0][3][2], (32, (), ((("u", "m"), -32),)))

    def test_a_class_that_is_not_open_any_more(self):
        old = Library([own("P", "", "p4", [opened("h", shown=False)])])
        client = Resolved(main("y:u", ("cast", "y", "y"), classes=[own("u", "P", "n1")]), old)
        code = Code(client, Library([own("P", "", "p4")]))
        self.assertEqual(code.classes, (("u", 8, (("u", 0), ("P", 0)), (), ((("P", 0),), ()), (("n", 4, 1, 0),)),))
        self.assertEqual(code.bodies[-1][1][2], ((("cast", "y", "y", "u"),),))

    def test_a_later_way(self):
        old = Library([own("P", "", "p4"), own("Q", "P")])
        client = Resolved(main("y:u x:P i:int1", ("set", "x", "y"), ("get", "i", "y", "p"), classes=[own("u", "Q")]),
                          old)
        rows = Code(client, Library([own("P", "", "p4"), own("Q", "+P")])).bodies[-1][1][2]
        self.assertEqual(rows, ((("move", "x", "y", ("way", -3, 0)),),
                                (("load", "1", "y", ("way", -3, 0), 4), ("set", "i", "1", 1))))

    def test_lacks_with_the_first_need(self):
        self.assertEqual(raised(Code, mine_resolved(), Library([])), ("Lacks", ("class", "Base")))
        later = Library([own("Base"), own("Leaf", "", "", [], closed=True)])
        self.assertEqual(raised(Code, mine_resolved(), later), ("Lacks", ("derive", "Leaf")))


class Equality(unittest.TestCase):
    def test_codes(self):
        code = Code(mine_resolved())
        self.assertEqual(code, Code(Resolved(mine_client(), base_library())))
        steps = main("x:Base i:int4", ("say", 1))
        self.assertNotEqual(Code(Resolved(steps, base_library())), Code(Resolved(Client([]), base_library())))
        self.assertEqual(Code(Resolved(main("x:Base"), base_library())), Code(Resolved(Client([]), base_library())))
        self.assertNotEqual(Code(Resolved(Client([own("u")]), base_library())),
                            Code(Resolved(Client([own("v")]), base_library())))
        self.assertEqual(Code(Resolved(Client([own("u")]), base_library())),
                         Code(Resolved(Client([own("u")]), Library([]))))

    def test_nothing_else_is_equal(self):
        code = Code(mine_resolved())
        for other in [x for x in strangers() if x is not NotImplemented] + [
                (code.classes, code.bodies), Bag(classes=code.classes, bodies=code.bodies), mine_resolved()]:
            self.assertFalse(code == other)
            self.assertTrue(code != other)

    def test_kinds_of_values(self):
        code = Code(mine_resolved())
        self.assertIs(type(code.classes), tuple)
        self.assertIs(type(code.bodies), tuple)

        def flat(value):
            kinds = {type(value)}
            if isinstance(value, tuple):
                for part in value:
                    kinds |= flat(part)
            return kinds
        self.assertEqual(flat(code.classes + code.bodies), {tuple, str, int})


if __name__ == "__main__":
    unittest.main()
