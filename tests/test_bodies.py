"""Statements and the bodies of libraries (points 26 and 27)."""

import unittest

from oldclients.bodies import check_bodies
from oldclients.declared import Body, Class, Field, Method, Routine
from oldclients.libraries import Library
from tests.helpers import bare, doing, oddities, opened, own, plain, raised, strangers

LOW, HIGH = -(1 << 63), (1 << 63) - 1
# A and its heirs B (plain) and S (shared); F has no table; N is bare; K refers to others
CLASSES = [
    Class("A", (), (Field("a", "int4"), Field("h", "int1", 0, False)),
          (opened("f", params=(("p", "int2"), ("r", "A")), result="int8"), opened("g", result="A"), opened("v"))),
    own("B", "A", "b2", [plain("pb", (("q", "F"),), "B"), plain("hid", shown=False)]),
    own("S", "+A", "s1"),
    own("F", "", "x8"),
    own("N", "", "", [bare("n")]),
    Class("K", (), (Field("ka", "A"), Field("kb", "B"), Field("ki", "int1"), Field("kf", "F"))),
    own("L", "A", closed=True, lent=True),
]
ROUTINES = [
    Routine("add", (("p", "int1"), ("q", "int8")), "int4", Body()), Routine("give", (("r", "A"),), "B", Body()),
    Routine("none", (), None, Body()),
]
VARIABLES = tuple(tuple(pair.split(":")) for pair in
                  "i:int1 j:int2 k:int4 m:int8 a:A b:B s:S x:F n:N c:K l:L".split())


def at(steps, result=None, variables=VARIABLES):
    """Return at of NoBody for a routine with these statements, None if they are right."""
    test = Routine("test", (("pi", "int4"), ("pa", "A")), result, Body(variables, tuple(steps)))
    error = raised(check_bodies, Library(CLASSES, ROUTINES + [test]))
    assert error is None or (error[0], error[1]) == ("NoBody", ("", "test")), error
    return error and error[2]


def in_method(steps, owner="B", result=None):
    """Return at of NoBody for a plain method of a class with these statements, None if they are right."""
    test = doing("test", steps, VARIABLES, (), result, "plain")
    classes = [Class(item.name, item.bases, item.fields, item.methods + (test,), item.closed, item.lent)
               if item.name == owner else item for item in CLASSES]
    error = raised(check_bodies, Library(classes, ROUTINES))
    assert error is None or (error[0], error[1]) == ("NoBody", (owner, "test")), error
    return error and error[2]


RIGHT = [
    ("set", "i", 5), ("set", "i", LOW), ("set", "i", HIGH), ("set", "i", "m"), ("set", "m", "i"), ("set", "pi", 3),
    ("set", "a", None), ("set", "a", "a"), ("set", "a", "b"), ("set", "a", "s"), ("set", "pa", "l"), ("set", "x", "x"),
    ("add", "i", 1, 2), ("add", "i", "i", "m"), ("less", "m", "i", HIGH), ("less", "pi", "pi", "pi"),
    ("new", "a", "A"), ("new", "a", "B"), ("new", "a", "S"), ("new", "b", "B"), ("new", "x", "F"), ("new", "pa", "L"),
    ("get", "i", "a", "a"), ("get", "i", "b", "a"), ("get", "m", "s", "a"), ("get", "i", "a", "h"),
    ("get", "a", "c", "ka"), ("get", "a", "c", "kb"), ("get", "b", "c", "kb"), ("get", "i", "b", "b"),
    ("put", "a", "a", 5), ("put", "b", "a", "m"), ("put", "c", "ka", None), ("put", "c", "ka", "b"),
    ("put", "c", "ka", "a"), ("put", "c", "kb", "b"), ("put", "l", "h", HIGH), ("put", "pa", "a", "pi"),
    ("call", None, "a", "f", (1, None)), ("call", "i", "b", "f", ("m", "b")), ("call", "m", "s", "f", (LOW, "s")),
    ("call", "a", "a", "g", ()), ("call", None, "a", "g", ()), ("call", None, "l", "v", ()),
    ("call", "b", "b", "pb", ("x",)), ("call", "a", "b", "pb", (None,)), ("call", None, "b", "hid", ()),
    ("call", None, "n", "n", ()), ("do", "i", "add", (1, "m")), ("do", None, "add", ("i", HIGH)),
    ("do", "b", "give", ("s",)), ("do", "a", "give", (None,)), ("do", None, "none", ()), ("do", None, "test", (1, "a")),
    ("cast", "b", "a"), ("cast", "x", "a"), ("cast", "a", "a"), ("cast", "a", "b"), ("cast", "c", "s"),
    ("cast", "n", "n"), ("cast", "pa", "pa"), ("say", 5), ("say", "i"), ("say", "m"), ("say", LOW), ("return", None),
    ("if", 1, (), ()), ("if", "i", (), ()), ("if", "a", (("say", 1),), (("say", 2),)), ("while", 0, ()),
    ("while", "x", (("set", "x", None),)), ("while", "pi", ()),
]
WRONG = [
    # lengths and words
    ("set", "i"), ("set", "i", 1, 2), ("add", "i", 1), ("add", "i", 1, 2, 3), ("less", "i", 1), ("less", "i", 1, 2, 3),
    ("new", "a"), ("new", "a", "A", "A"), ("get", "i", "a"), ("get", "i", "a", "a", "a"), ("put", "a", "a"),
    ("put", "a", "a", 1, 1), ("call", None, "l", "v"), ("call", None, "l", "v", (), ()), ("do", None, "none"),
    ("do", None, "none", (), ()), ("cast", "b"), ("cast", "b", "a", "a"), ("say",), ("say", 1, 2), ("if", 1, ()),
    ("if", 1, (), (), ()), ("while", 1), ("while", 1, (), ()), ("return",), ("return", None, None), (), ("",),
    ("goto", 1), ("Set", "i", 1), (None,), (("set",), "i", 1), ["set", "i", 1], "say", ("move", "a", "b"), 5,
    # set
    ("set", "q", 1), ("set", None, 1), ("set", 1, 1), ("set", "i", None), ("set", "i", "a"), ("set", "i", "q"),
    ("set", "i", HIGH + 1), ("set", "i", LOW - 1), ("set", "i", True), ("set", "i", "5"), ("set", "i", (1,)),
    ("set", "a", 0), ("set", "a", "i"), ("set", "b", "a"), ("set", "a", "x"), ("set", "a", "c"), ("set", "s", "b"),
    ("set", "a", False), ("set", "A", "a"), ("set", "this", None),
    # add and less
    ("add", "a", 1, 2), ("add", "i", "a", 2), ("add", "i", 1, None), ("add", 1, 1, 1), ("add", None, 1, 2),
    ("add", "i", True, 1), ("add", "i", 1, HIGH + 1), ("add", "q", 1, 1), ("less", "a", 1, 2), ("less", "i", "q", 1),
    ("less", "i", 1, LOW - 1), ("less", "i", "a", "a"), ("less", "i", None, None),
    # new
    ("new", "i", "A"), ("new", "b", "A"), ("new", "n", "N"), ("new", "a", "F"), ("new", "a", "Q"), ("new", "a", "a"),
    ("new", "a", None), ("new", None, "A"), ("new", "q", "A"), ("new", "a", "int4"), ("new", "m", "int8"),
    # get
    ("get", "i", "a", "f"), ("get", "i", "a", "b"), ("get", "i", "a", "q"), ("get", "i", "a", 1),
    ("get", "i", "i", "a"),
    ("get", "i", "q", "a"), ("get", "i", None, "a"), ("get", "a", "a", "a"), ("get", "i", "c", "ka"),
    ("get", "b", "c", "ka"), ("get", None, "a", "a"), ("get", "q", "a", "a"), ("get", "i", "A", "a"),
    ("get", "i", "b", "pb"), ("get", 1, "a", "a"), ("get", "i", "a", None), ("get", "i", "a", ("field", "A", "a")),
    # put
    ("put", "a", "f", 1), ("put", "a", "b", 1), ("put", "a", 1, 1), ("put", "i", "a", 1), ("put", None, "a", 1),
    ("put", "a", "a", None), ("put", "a", "a", "a"), ("put", "c", "kb", "a"), ("put", "c", "ka", 0),
    ("put", "c", "ka", "x"), ("put", "a", "a", HIGH + 1), ("put", "a", "a", True), ("put", "q", "a", 1),
    # call
    ("call", None, "a", "a", ()), ("call", None, "a", "q", ()), ("call", None, "i", "f", (1, None)),
    ("call", None, None, "v", ()), ("call", "i", "l", "v", ()), ("call", "b", "a", "g", ()),
    ("call", "i", "a", "g", ()),
    ("call", "a", "a", "f", (1, None)), ("call", None, "a", "f", (1,)), ("call", None, "a", "f", (1, None, 1)),
    ("call", None, "a", "f", [1, None]), ("call", None, "a", "f", None), ("call", None, "a", "f", (None, None)),
    ("call", None, "a", "f", (1, 1)), ("call", None, "a", "f", ("a", None)), ("call", None, "a", "f", (1, "x")),
    ("call", None, "a", "pb", ("x",)), ("call", "q", "a", "g", ()), ("call", 1, "a", "g", ()),
    ("call", None, "a", 5, ()),
    ("call", "s", "b", "pb", ("x",)), ("call", None, "a", "f", (HIGH + 1, None)), ("call", None, "x", "v", ()),
    # do
    ("do", None, "q", ()), ("do", None, "add", (1,)), ("do", None, "add", (1, None)), ("do", "a", "add", (1, 2)),
    ("do", "i", "none", ()), ("do", "s", "give", ("a",)), ("do", None, "give", ("x",)), ("do", None, 1, ()),
    ("do", None, None, ()), ("do", None, "none", []), ("do", None, "give", (0,)), ("do", "q", "add", (1, 2)),
    # cast
    ("cast", "i", "a"), ("cast", "a", "i"), ("cast", "a", "x"), ("cast", "a", "c"), ("cast", "a", None),
    ("cast", None, "a"), ("cast", "q", "a"), ("cast", "a", "q"), ("cast", "x", "x"), ("cast", "A", "a"),
    # say, if, while, return
    ("say", "a"), ("say", None), ("say", "q"), ("say", HIGH + 1), ("say", LOW - 1), ("say", True), ("say", (1,)),
    ("if", "q", (), ()), ("if", None, (), ()), ("if", True, (), ()), ("if", 1, [], ()), ("if", 1, (), []),
    ("if", 1, None, ()), ("if", HIGH + 1, (), ()), ("while", "q", ()), ("while", None, ()), ("while", 1, []),
    ("while", 1, "say"), ("while", False, ()), ("return", 1), ("return", "a"), ("return", 0), ("return", "q"),
]


class Statements(unittest.TestCase):
    def test_right_ones(self):
        for step in RIGHT:
            self.assertIsNone(at([step]), step)

    def test_wrong_ones(self):
        for step in WRONG:
            self.assertEqual(at([step]), 0, step)
            self.assertEqual(at([("say", 1), step, ("say", None)]), 1, step)

    def test_odd_values_anywhere(self):
        for value in strangers() + oddities():
            for step in [s for s in RIGHT if s[0] not in ("if", "while")]:
                for index in range(len(step)):
                    changed = step[:index] + (value,) + step[index + 1:]
                    if value is not None:
                        self.assertEqual(at([changed]), 0, (index, step))
            if value is not None:
                self.assertEqual(at([value]), 0)
                for changed in (("if", value, (), ()), ("if", 1, value, ()), ("if", 1, (), value), ("while", value, ()),
                                ("while", 1, value), ("call", None, "a", "f", (value, None)),
                                ("do", None, "give", (value,))):
                    self.assertEqual(at([changed]), 0, changed)

    def test_return_with_a_result(self):
        for value in (5, "i", "m", "pi", LOW):
            self.assertIsNone(at([("return", value)], "int2"))
        for value in (None, "a", HIGH + 1, True, "q", "5"):
            self.assertEqual(at([("return", value)], "int2"), 0)
        for value in (None, "a", "b", "s", "pa"):
            self.assertIsNone(at([("return", value)], "A"))
        for value in (0, "i", "x", False, "q", "c"):
            self.assertEqual(at([("return", value)], "A"), 0)
        self.assertEqual(at([("return", "a")], "B"), 0)

    def test_this(self):
        for step in [("set", "a", "this"), ("set", "b", "this"), ("get", "i", "this", "b"), ("put", "this", "a", 1),
                     ("call", None, "this", "v", ()), ("cast", "s", "this"), ("if", "this", (), ()),
                     ("do", None, "give", ("this",)), ("put", "c", "ka", "this"), ("call", None, "this", "hid", ())]:
            self.assertIsNone(in_method([step]), step)
            self.assertEqual(at([step]), 0, step)
        for step in [("set", "this", "b"), ("set", "this", None), ("new", "this", "B"), ("cast", "this", "b"),
                     ("get", "this", "c", "kb"), ("call", "this", "b", "pb", (None,)), ("do", "this", "give", ("a",)),
                     ("set", "s", "this"), ("set", "i", "this"), ("say", "this"), ("add", "i", "this", 1)]:
            self.assertEqual(in_method([step]), 0, step)
        self.assertEqual(in_method([("cast", "a", "this")], "F"), 0)
        self.assertIsNone(in_method([("return", "this")], result="A"))
        self.assertEqual(in_method([("return", "this")], result="S"), 0)

    def test_hidden_members_may_be_named_in_libraries(self):
        for owner in ("A", "B", "F"):
            self.assertIsNone(in_method([("get", "i", "a", "h"), ("call", None, "b", "hid", ())], owner))

    def test_bare_classes_are_not_made(self):
        self.assertEqual(in_method([("new", "n", "N")], "N"), 0)
        heir = own("M", "N", "", ["n"])
        steps = (("new", "n", "M"), ("call", None, "n", "n", ()))
        library = Library(CLASSES + [heir], [Routine("r", (), None, Body(VARIABLES, steps))])
        self.assertIsNone(check_bodies(library=library))


class Numbers(unittest.TestCase):
    def test_as_they_are_written(self):
        wrong = ("say", None)
        one = ("say", 1)
        self.assertEqual(at([one, wrong]), 1)
        self.assertEqual(at([("if", 1, (one, wrong), ()), one]), 2)
        self.assertEqual(at([("if", 1, (one, one), (one, wrong))]), 4)
        self.assertEqual(at([("while", 1, (one,)), wrong]), 2)
        self.assertEqual(at([("if", 1, (one, ("while", 1, (one, one)), one), (one,)), one, wrong]), 8)
        self.assertEqual(at([("if", 1, (("while", "i", (one, wrong)),), (wrong,))]), 3)

    def test_the_containing_statement_goes_first(self):
        wrong = ("say", None)
        self.assertEqual(at([("say", 1), ("if", None, (wrong,), ())]), 1)
        self.assertEqual(at([("say", 1), ("if", 1, (wrong,), [])]), 1)
        self.assertEqual(at([("while", 1, (("if", 1, (wrong,), None),))]), 1)

    def test_an_item_that_is_no_statement_has_its_own_number(self):
        self.assertEqual(at([("say", 1), ("if", 1, (("say", 1), 5), ())]), 3)
        self.assertEqual(at([("while", 1, (("say", 1),)), None]), 2)

    def test_at_most_40_statements(self):
        one = ("say", 1)
        self.assertIsNone(at([one] * 40))
        self.assertEqual(at([one] * 41), 40)
        self.assertEqual(at([one] * 60), 40)
        self.assertIsNone(at([("while", 1, (one,) * 20), ("if", 1, (one,) * 9, (one,) * 9)]))
        self.assertEqual(at([("while", 1, (one,) * 20), ("if", 1, (one,) * 9, (one,) * 10)]), 40)
        self.assertEqual(at([("while", 1, (one,) * 39), one]), 40)
        self.assertEqual(at([one] * 39 + [("if", 1, (), (one,))]), 40)
        self.assertEqual(at([one] * 40 + [("say", None)]), 40)
        self.assertEqual(at([one] * 30 + [("say", None)] + [one] * 30), 30)

    def test_at_most_6_around(self):
        step = ("say", 1)
        for many in range(1, 9):
            step = ("while", "i", (step,)) if many % 2 else ("if", "a", (), (step,))
            self.assertEqual(at([step]), None if many <= 6 else 7, many)
        deep = ("if", 1, (("if", 1, (("if", 1, (("if", 1, (("if", 1, (("if", 1, (), ()),), ()),), ()),), ()),), ()),),
                ())
        self.assertIsNone(at([deep, deep]))
        self.assertEqual(at([("say", 1), ("while", 1, (deep, ("say", 1)))]), None)
        self.assertEqual(at([("while", 1, (("while", 1, (deep,)),))]), 7)


class Order(unittest.TestCase):
    def test_methods_go_ahead_of_routines(self):
        wrong = [("say", None)]
        first = Class("A", (), (), (doing("a", []), doing("b", wrong), doing("c", wrong)))
        second = Class("B", (), (), (bare("d"), doing("e", wrong)))
        routines = [Routine("r", (), None, Body()), Routine("s", (), None, Body((), (("say", 1), *wrong)))]
        self.assertEqual(raised(check_bodies, Library([first, second], routines)), ("NoBody", ("A", "b"), 0))
        fine = Class("A", (), (), (doing("a", []),))
        self.assertEqual(raised(check_bodies, Library([fine, second], routines)), ("NoBody", ("B", "e"), 0))
        self.assertEqual(raised(check_bodies, Library([fine], routines)), ("NoBody", ("", "s"), 1))
        self.assertIsNone(check_bodies(Library([fine], routines[:1])))
        self.assertIsNone(check_bodies(Library([])))

    def test_each_kind_of_method_is_looked_at(self):
        for kind in ("open", "plain"):
            item = Class("A", (), (), (doing("a", [("say", None)], kind=kind, shown=False),))
            self.assertEqual(raised(check_bodies, Library([item])), ("NoBody", ("A", "a"), 0))

    def test_parameters_and_variables(self):
        method = Method("f", "open", (("p", "int4"), ("q", "A")), None,
                        Body((("v", "int1"), ("w", "A")), (("add", "v", "p", "v"), ("set", "w", "q"), ("set", "p", "v"),
                                                           ("set", "q", "this"), ("say", "other"))))
        self.assertEqual(raised(check_bodies, Library([Class("A", (), (), (method,))])), ("NoBody", ("A", "f"), 4))

    def test_later_classes_and_own_routine(self):
        first = Class("A", (), (), (doing("f", [("new", "b", "B"), ("get", "i", "b", "x"), ("do", None, "r", ())],
                                          (("b", "B"), ("i", "int1"))),))
        again = Routine("r", (), None, Body((), (("do", None, "r", ()),)))
        self.assertIsNone(check_bodies(Library([first, own("B", "", "x1")], [again])))
        self.assertEqual(raised(check_bodies, Library([first, own("B", "", "x1")])), ("NoBody", ("A", "f"), 2))

    def test_the_first_pair_of_introducers_is_meant(self):
        # f of A and of B stand side by side in C: ("f" seen from C) is that of A
        a, b = own("A", "", "", [opened("f")]), own("B", "", "", [opened("f")])
        c = own("C", "A B", "", ["f"])
        steps = (("call", None, "c", "f", ()),)
        self.assertIsNone(check_bodies(Library([a, b, c], [Routine("r", (("c", "C"),), None, Body((), steps))])))


if __name__ == "__main__":
    unittest.main()
