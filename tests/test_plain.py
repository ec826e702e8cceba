"""Plain runs (point 30), and what classes of clients override (point 28)."""

import unittest

from oldclients.clients import Resolved
from oldclients.declared import Body, Class, Field, Routine
from oldclients.libraries import Library
from oldclients.plain import plain_run
from tests.helpers import bare, base_library, doing, main, mine_resolved, own, plain, raised

LOW, HIGH = -(1 << 63), (1 << 63) - 1


def returning(name, number, kind="open", shown=True, result="int4"):
    """Return a method that returns a number."""
    return doing(name, [("return", number)], (), (), result, kind, shown)


def library():
    """Return a library whose classes have fields with start values, and methods that return numbers."""
    a = Class("A", (), (Field("a", "int4", 5), Field("q", "A"), Field("s", "int1", -3)),
              (returning("f", 1), returning("p", 2, "plain"),
               doing("sum", [("get", "i", "this", "a"), ("add", "i", "i", "x"), ("return", "i")], (("i", "int8"),),
                     (("x", "int2"),), "int2"),
               doing("me", [("return", "this")], (), (), "A"), doing("none", [])))
    b = Class("B", (("A", "plain"),), (Field("b", "int2", 7),), (returning("f", 10),))
    c = Class("C", (("A", "shared"),), (), (returning("f", 20),))
    routines = [Routine("twice", (("x", "int1"),), "int2", Body((), (("add", "x", "x", "x"), ("return", "x")))),
                Routine("pick", (("i", "int8"), ("x", "A"), ("y", "A")), "A",
                        Body((), (("if", "i", (("return", "x"),), (("return", "y"),)), ("say", 99)))),
                Routine("talk", (), None, Body((), (("say", 1), ("return", None), ("say", 2)))),
                Routine("again", (("x", "int8"),), "int8", Body((("r", "int8"),), (
                    ("if", "x", (("add", "x", "x", -1), ("do", "r", "again", ("x",)), ("add", "r", "r", 1)), ()),
                    ("return", "r")))),
                Routine("open", (), "int4", Body()), Routine("null", (), "A", Body())]
    return Library([a, b, c, own("Z")], routines)


VARIABLES = "i:int1 j:int2 k:int4 m:int8 x:A y:A b:B c:C z:Z"


def run(*steps, classes=(), variables=VARIABLES, lib=None, later=None, most=1000):
    """Return the result of a plain run of a main routine."""
    client = Resolved(main(variables, *steps, classes=classes), library() if lib is None else lib)
    return plain_run(client, later, most=most)


def said(*steps, **named):
    """Return what a run says that ends well."""
    numbers, end = run(*steps, **named)
    assert end == "done", (numbers, end)
    return numbers


class Statements(unittest.TestCase):
    def test_the_document(self):
        self.assertEqual(plain_run(mine_resolved()), ([7], "done"))
        self.assertEqual(plain_run(resolved=mine_resolved(), library=base_library(), most=4), ([7], "done"))
        self.assertEqual(plain_run(mine_resolved(), None), ([7], "done"))
        self.assertEqual(run(), ([], "done"))

    def test_numbers_are_kept_modulo_the_size(self):
        self.assertEqual(said(("set", "i", 127), ("say", "i"), ("set", "i", 128), ("say", "i"), ("set", "i", -129),
                              ("say", "i"), ("set", "j", 65535), ("say", "j"), ("set", "k", 1 << 31), ("say", "k"),
                              ("set", "m", HIGH), ("say", "m"), ("set", "i", "m"), ("say", "i"), ("say", LOW)),
                         [127, -128, 127, -1, -(1 << 31), HIGH, -1, LOW])

    def test_add_and_less(self):
        self.assertEqual(said(("add", "i", 100, 100), ("say", "i"), ("add", "m", HIGH, 1), ("say", "m"),
                              ("add", "k", "i", "i"), ("say", "k"), ("add", "m", LOW, LOW), ("say", "m")),
                         [-56, LOW, -112, 0])
        self.assertEqual(said(("less", "i", 1, 2), ("say", "i"), ("less", "i", 2, 2), ("say", "i"), ("less", "m", 3, 2),
                              ("say", "m"), ("less", "m", LOW, HIGH), ("say", "m"), ("set", "j", -1),
                              ("less", "k", "j", 0), ("say", "k")), [1, 0, 0, 1, 1])

    def test_variables_begin_as_0_or_null(self):
        self.assertEqual(said(("say", "i"), ("say", "m"), ("if", "x", (("say", 1),), (("say", 2),))), [0, 0, 2])

    def test_fields(self):
        self.assertEqual(said(("new", "x", "B"), ("get", "m", "x", "a"), ("say", "m"), ("get", "m", "x", "s"),
                              ("say", "m"), ("put", "x", "s", 200), ("get", "m", "x", "s"), ("say", "m"),
                              ("put", "x", "a", HIGH), ("get", "m", "x", "a"), ("say", "m"), ("put", "x", "a", 255),
                              ("get", "i", "x", "a"), ("say", "i")), [5, -3, -56, -1, -1])
        self.assertEqual(said(("new", "x", "A"), ("new", "y", "A"), ("put", "x", "a", 1), ("get", "i", "y", "a"),
                              ("say", "i"), ("set", "y", "x"), ("get", "i", "y", "a"), ("say", "i")), [5, 1])

    def test_references(self):
        self.assertEqual(said(("new", "b", "B"), ("put", "b", "q", "b"), ("get", "x", "b", "q"), ("put", "x", "a", 9),
                              ("get", "i", "b", "a"), ("say", "i"), ("put", "b", "q", None), ("get", "x", "b", "q"),
                              ("if", "x", (("say", 1),), (("say", 2),))), [9, 2])
        self.assertEqual(said(("new", "x", "A"), ("get", "y", "x", "q"), ("if", "y", (("say", 1),), ())), [])

    def test_the_first_object_is_not_null(self):
        self.assertEqual(said(("new", "x", "A"), ("if", "x", (("say", 1),), ()), ("while", "x", (("set", "x", None),)),
                              ("if", "x", (), (("say", 2),))), [1, 2])

    def test_calls(self):
        self.assertEqual(said(("new", "x", "A"), ("call", "i", "x", "f", ()), ("say", "i"), ("new", "x", "B"),
                              ("call", "i", "x", "f", ()), ("say", "i"), ("new", "x", "C"), ("call", "i", "x", "f", ()),
                              ("say", "i"), ("call", "i", "x", "p", ()), ("say", "i"), ("call", None, "x", "f", ())),
                         [1, 10, 20, 2])
        self.assertEqual(said(("new", "x", "A"), ("call", "m", "x", "sum", (65536,)), ("say", "m"),
                              ("call", "m", "x", "sum", (32767,)), ("say", "m"), ("call", "i", "x", "sum", (300,)),
                              ("say", "i")), [5, -32764, 49])
        self.assertEqual(said(("new", "c", "C"), ("call", "x", "c", "me", ()), ("put", "x", "a", 3),
                              ("get", "i", "c", "a"), ("say", "i"), ("call", None, "x", "none", ())), [3])

    def test_routines(self):
        self.assertEqual(said(("do", "m", "twice", (100,)), ("say", "m"), ("do", "m", "twice", (300,)), ("say", "m"),
                              ("do", None, "talk", ()), ("do", "m", "again", (50,)), ("say", "m")), [-56, 88, 1, 50])
        self.assertEqual(said(("new", "x", "A"), ("new", "b", "B"), ("do", "y", "pick", (0, "x", "b")),
                              ("call", "i", "y", "f", ()), ("say", "i"), ("do", "y", "pick", (5, "x", "b")),
                              ("call", "i", "y", "f", ()), ("say", "i")), [10, 1])
        self.assertEqual(said(("set", "k", 5), ("do", "k", "open", ()), ("say", "k"), ("new", "x", "A"),
                              ("do", "x", "null", ()), ("if", "x", (), (("say", 4),))), [0, 4])

    def test_casts(self):
        show = ("if", "b", (("say", 1),), (("say", 0),))
        self.assertEqual(said(("new", "x", "A"), ("cast", "b", "x"), show, ("new", "x", "B"), ("cast", "b", "x"), show,
                              ("put", "b", "b", 3), ("cast", "b", "b"), show, ("cast", "c", "b"),
                              ("if", "c", (), (("say", 5),)), ("set", "x", None), ("cast", "b", "x"), show,
                              ("cast", "z", "x"), ("if", "z", (), (("say", 6),))), [0, 1, 1, 5, 0, 6])
        self.assertEqual(said(("new", "c", "C"), ("put", "c", "a", 4), ("cast", "x", "c"), ("get", "i", "x", "a"),
                              ("say", "i")), [4])

    def test_if_and_while(self):
        self.assertEqual(said(("if", 1, (("say", 1),), (("say", 2),)), ("if", 0, (("say", 1),), (("say", 2),)),
                              ("if", -1, (("say", 3),), ()), ("set", "i", 3),
                              ("while", "i", (("say", "i"), ("add", "i", "i", -1))), ("say", "i")),
                         [1, 2, 3, 3, 2, 1, 0])
        self.assertEqual(said(("while", 0, (("say", 1),)), ("if", "i", (), ())), [])

    def test_return_ends_the_body(self):
        self.assertEqual(said(("say", 1), ("while", 1, (("return", None), ("say", 2))), ("say", 3)), [1])

    def test_equal_clients_give_equal_results(self):
        self.assertEqual(run(("say", 1)), run(("say", 1)))
        result = plain_run(mine_resolved())
        result[0].append(5)
        self.assertEqual(plain_run(mine_resolved()), ([7], "done"))
        self.assertIs(type(result), tuple)


class Ends(unittest.TestCase):
    def test_null(self):
        for step in [("get", "i", "x", "a"), ("put", "x", "a", 1), ("call", "i", "x", "f", ()),
                     ("call", None, "x", "p", ())]:
            self.assertEqual(run(("say", 1), step, ("say", 2)), ([1], "null"))
        self.assertEqual(run(("new", "x", "A"), ("get", "y", "x", "q"), ("get", "i", "y", "a")), ([], "null"))

    def test_deep(self):
        again = Routine("more", (), None, Body((), (("do", None, "more", ()),)))
        lib = Library([], [again])
        self.assertEqual(run(("say", 1), ("do", None, "more", ()), variables="", lib=lib), ([1], "deep"))
        self.assertEqual(run(("do", "m", "again", (99,)), ("say", "m")), ([99], "done"))
        self.assertEqual(run(("do", "m", "again", (100,)), ("say", "m")), ([], "deep"))

    def test_calls_that_ended_are_not_active(self):
        steps = [("set", "m", 120), ("while", "m", (("do", None, "talk", ()), ("add", "m", "m", -1)))]
        self.assertEqual(run(*steps), ([1] * 120, "done"))

    def test_steps(self):
        steps = [("say", 1), ("say", 2), ("say", 3)]
        self.assertEqual(run(*steps, most=3), ([1, 2, 3], "done"))
        self.assertEqual(run(*steps, most=2), ([1, 2], "steps"))
        self.assertEqual(run(*steps, most=0), ([], "steps"))
        self.assertEqual(run(most=0), ([], "done"))
        self.assertEqual(run(("while", 1, (("say", 1),))), ([1] * 500, "steps"))

    def test_each_test_counts(self):
        steps = [("set", "i", 2), ("while", "i", (("add", "i", "i", -1),)), ("if", 1, (), (("say", 5),))]
        # set, test, add, test, add, test, if
        self.assertEqual(run(*steps, most=7), ([], "done"))
        self.assertEqual(run(*steps, most=6), ([], "steps"))
        self.assertEqual(run(("while", 1, ()), most=50), ([], "steps"))

    def test_statements_of_methods_count(self):
        steps = [("new", "x", "A"), ("call", "i", "x", "f", ()), ("say", "i")]
        self.assertEqual(run(*steps, most=4), ([1], "done"))
        self.assertEqual(run(*steps, most=3), ([], "steps"))

    def test_a_statement_too_many_goes_ahead_of_null(self):
        self.assertEqual(run(("say", 1), ("get", "i", "x", "a"), most=1), ([1], "steps"))
        self.assertEqual(run(("say", 1), ("get", "i", "x", "a"), most=2), ([1], "null"))


class Clients(unittest.TestCase):
    def test_own_classes(self):
        mine = Class("u", (("B", "plain"),), (Field("own", "int1", 9), Field("v", "u")),
                     (doing("f", [("get", "i", "this", "own"), ("call", "j", "this", "p", ()), ("add", "i", "i", "j"),
                                  ("return", "i")], (("i", "int8"), ("j", "int8")), (), "int4"), plain("w")))
        steps = [("new", "x", "u"), ("call", "i", "x", "f", ()), ("say", "i"), ("cast", "u", "x"),
                 ("put", "u", "own", 300), ("call", "i", "x", "f", ()), ("say", "i"), ("put", "u", "v", "u"),
                 ("get", "u", "u", "v"), ("get", "i", "u", "b"), ("say", "i"), ("call", None, "u", "w", ())]
        self.assertEqual(said(*steps, classes=[mine], variables=VARIABLES + " u:u"), [11, 46, 7])

    def test_hidden_methods_are_not_overridden(self):
        calls = doing("out", [("call", "i", "this", "h", ()), ("return", "i")], (("i", "int4"),), (), "int4", "plain")
        p = Class("P", (), (), (returning("h", 1, shown=False), calls))
        steps = [("new", "y", "u"), ("call", "i", "y", "out", ()), ("say", "i"), ("call", "i", "y", "h", ()),
                 ("say", "i")]
        mine = own("u", "P", "", [returning("h", 2)])
        self.assertEqual(said(*steps, classes=[mine], variables="y:u i:int4", lib=Library([p])), [1, 2])

    def test_an_overrider_overrides_all_of_its_name_with_the_same_forms(self):
        calls = doing("out", [("call", "i", "this", "h", ()), ("return", "i")], (("i", "int4"),), (), "int4", "plain")
        more = doing("also", [("call", "i", "this", "h", ()), ("return", "i")], (("i", "int4"),), (), "int4", "plain")
        p = Class("P", (), (), (returning("h", 1, shown=False), calls))
        q = own("Q", "", "", [returning("h", 3)])
        r = Class("R", (), (), (returning("h", 4, shown=False, result="int2"), more))
        mine = own("u", "P Q R", "", [returning("h", 2)])
        steps = [("new", "y", "u"), ("call", "i", "y", "out", ()), ("say", "i"), ("call", "i", "y", "also", ()),
                 ("say", "i"), ("call", "i", "y", "h", ()), ("say", "i")]
        self.assertEqual(said(*steps, classes=[mine], variables="y:u i:int4", lib=Library([p, q, r])), [2, 4, 2])


def versions(*rows):
    """Return libraries, each from the classes of one version."""
    return [Library(list(classes)) for classes in rows]


class Later(unittest.TestCase):
    def test_new_overrides(self):
        root, mine = own("P", "", "", [returning("f", 1)]), own("u", "Q")
        old, new = versions([root, own("Q", "P")], [root, own("Q", "P", "", [returning("f", 8)])])
        steps = [("new", "x", "u"), ("call", "i", "x", "f", ()), ("say", "i")]
        variables = "x:P i:int4"
        self.assertEqual(run(*steps, classes=[mine], variables=variables, lib=old), ([1], "done"))
        self.assertEqual(run(*steps, classes=[mine], variables=variables, lib=old, later=new), ([8], "done"))
        over = own("u", "Q", "", [returning("f", 5)])
        self.assertEqual(run(*steps, classes=[over], variables=variables, lib=old, later=new), ([5], "done"))

    def test_a_method_of_its_own_overrides_nothing_later(self):
        calls = doing("out", [("return", 0)], (("i", "int4"),), (), "int4", "plain")
        now = doing("out", [("call", "i", "this", "h", ()), ("return", "i")], (("i", "int4"),), (), "int4", "plain")
        old, new = versions([own("P", "", "", [calls])], [own("P", "", "", [returning("h", 1), now])])
        mine = own("u", "P", "", [returning("h", 2)])
        steps = [("new", "y", "u"), ("call", "i", "y", "out", ()), ("say", "i"), ("call", "i", "y", "h", ()),
                 ("say", "i")]
        self.assertEqual(run(*steps, classes=[mine], variables="y:u i:int4", lib=old), ([0, 2], "done"))
        self.assertEqual(run(*steps, classes=[mine], variables="y:u i:int4", lib=old, later=new), ([1, 2], "done"))

    def test_an_overrider_overrides_methods_of_later_versions(self):
        now = doing("out", [("call", "i", "this", "h", ()), ("return", "i")], (("i", "int4"),), (), "int4", "plain")
        calls = doing("out", [("return", 0)], (), (), "int4", "plain")
        p = own("P", "", "", [returning("h", 1)])
        old = Library([p, own("Q", "", "", [calls])])
        mine = own("u", "P Q", "", [returning("h", 2)])
        steps = [("new", "y", "u"), ("call", "i", "y", "out", ()), ("say", "i")]
        for shown, result, number in ((True, "int4", 2), (False, "int4", 2), (True, "int2", 7), (False, "int2", 7)):
            new = Library([p, own("Q", "", "", [returning("h", 7, shown=shown, result=result), now])])
            self.assertEqual(run(*steps, classes=[mine], variables="y:u i:int4", lib=old, later=new),
                             ([number], "done"))

    def test_missing_last_overrides(self):
        root, over = own("R", "", "", [returning("f", 1)]), returning("f", 2)
        old, new = versions([root, own("P", "+R"), own("Q", "+R")],
                            [root, own("P", "+R", "", [over]), own("Q", "+R", "", [over])])
        steps = [("new", "x", "u"), ("say", 5), ("call", "i", "x", "f", ()), ("say", "i")]
        mine = own("u", "P Q")
        self.assertEqual(run(*steps, classes=[mine], variables="x:R i:int4", lib=old), ([5, 1], "done"))
        self.assertEqual(run(*steps, classes=[mine], variables="x:R i:int4", lib=old, later=new), ([5], "fault"))

    def test_methods_that_became_bare(self):
        old, new = versions([own("P", "", "", [returning("f", 1)])], [own("P", "", "", [bare("f", result="int4")])])
        steps = [("new", "x", "u"), ("say", 5), ("call", "i", "x", "f", ()), ("say", "i")]
        self.assertEqual(run(*steps, classes=[own("u", "P")], variables="x:P i:int4", lib=old), ([5, 1], "done"))
        self.assertEqual(run(*steps, classes=[own("u", "P")], variables="x:P i:int4", lib=old, later=new),
                         ([5], "fault"))

    def test_start_values_and_bodies_are_those_of_the_later_version(self):
        old, new = versions([Class("P", (), (Field("n", "int4", 5),), (returning("f", 1),))],
                            [Class("P", (), (Field("h", "int1", 0, False), Field("n", "int4", 6)),
                                   (returning("f", 2),))])
        steps = [("new", "x", "P"), ("get", "i", "x", "n"), ("say", "i"), ("call", "i", "x", "f", ()), ("say", "i")]
        self.assertEqual(run(*steps, variables="x:P i:int4", lib=old, later=new), ([6, 2], "done"))

    def test_casts_go_by_the_later_version(self):
        old, new = versions([own("P", "", "", ["f"]), own("Q"), own("R", "P")],
                            [own("P", "", "", ["f"]), own("Q"), own("R", "P Q")])
        steps = [("new", "x", "R"), ("cast", "y", "x"), ("if", "y", (("say", 1),), (("say", 0),))]
        self.assertEqual(run(*steps, variables="x:P y:Q", lib=old), ([0], "done"))
        self.assertEqual(run(*steps, variables="x:P y:Q", lib=old, later=new), ([1], "done"))

    def test_lacks(self):
        self.assertEqual(raised(plain_run, mine_resolved(), Library([])), ("Lacks", ("class", "Base")))
        later = Library([own("Base"), own("Leaf", "Base")])
        self.assertEqual(raised(plain_run, mine_resolved(), later, most=0),
                         ("Lacks", ("open", "Base", "f", (), "int4")))


if __name__ == "__main__":
    unittest.main()
