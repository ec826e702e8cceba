"""Point 5: the declared objects themselves, and which names, forms and rows are valid."""

import unittest

from oldclients.declared import Body, Class, Field, Method, Routine
from oldclients.libraries import Library
from tests.helpers import Bag, bare, oddities, opened, own, plain, refused, routine, strangers, wrong_names

SMALL_SIGNS = "abcdefghijklmnopqrstuvwxyz"
BIG_SIGNS = SMALL_SIGNS.upper()
FIGURES = "0123456789"

EXAMPLES = [
    (Field, {"name": "a", "form": "int1", "start": 1, "shown": False}),
    (Body, {"variables": (("a", "int1"),), "steps": (("say", 1),)}),
    (Method, {"name": "a", "kind": "open", "params": (("p", "int1"),), "result": "int2",
              "body": Body((), (("return", 1),)), "shown": False}),
    (Class, {"name": "A", "bases": (("B", "plain"),), "fields": (Field("a", "int1"),),
             "methods": (Method("m", "bare"),), "closed": True, "lent": True}),
    (Routine, {"name": "r", "params": (("p", "int1"),), "result": "int2", "body": Body((), (("return", 1),))}),
]
DEFAULTS = {
    Field: {"start": 0, "shown": True},
    Body: {"variables": (), "steps": ()},
    Method: {"params": (), "result": None, "body": None, "shown": True},
    Class: {"bases": (), "fields": (), "methods": (), "closed": False, "lent": False},
    Routine: {"params": (), "result": None, "body": None},
}


class Attributes(unittest.TestCase):
    def test_arguments_are_attributes(self):
        for made, values in EXAMPLES:
            for thing in (made(*values.values()), made(**values), made(**dict(reversed(list(values.items()))))):
                for name, value in values.items():
                    self.assertEqual(getattr(thing, name), value)

    def test_defaults(self):
        for made, values in EXAMPLES:
            needed = [value for name, value in values.items() if name not in DEFAULTS[made]]
            thing = made(*needed)
            for name, value in DEFAULTS[made].items():
                self.assertEqual(getattr(thing, name), value)
                self.assertIs(type(getattr(thing, name)), type(value))

    def test_anything_is_taken_and_kept(self):
        for made, values in EXAMPLES:
            for value in strangers() + [7, "", True, ()]:
                thing = made(*[value] * len(values))
                for name in values:
                    self.assertEqual(getattr(thing, name), value)
                    self.assertIs(type(getattr(thing, name)), type(value))


class Equality(unittest.TestCase):
    def test_equal_if_all_attributes_are(self):
        for made, values in EXAMPLES:
            self.assertTrue(made(**values) == made(**values))
            self.assertFalse(made(**values) != made(**values))

    def test_each_attribute_counts(self):
        for made, values in EXAMPLES:
            for name in values:
                for other in ("other", None, (), 77, []):
                    changed = made(**{**values, name: other})
                    self.assertFalse(made(**values) == changed, (made, name, other))
                    self.assertFalse(changed == made(**values), (made, name, other))
                    self.assertTrue(changed != made(**values), (made, name, other))

    def test_a_list_is_no_tuple(self):
        self.assertFalse(Body([], ()) == Body((), ()))
        self.assertFalse(Class("A", ()) == Class("A", []))
        self.assertFalse(Body((("a", "int1"),)) == Body((["a", "int1"],)))

    def test_inner_objects_count(self):
        one = Class("A", (), (Field("a", "int1"),), (opened("f", steps=(("say", 1),)),))
        self.assertTrue(one == Class("A", (), (Field("a", "int1"),), (opened("f", steps=(("say", 1),)),)))
        self.assertFalse(one == Class("A", (), (Field("a", "int1", 1),), (opened("f", steps=(("say", 1),)),)))
        self.assertFalse(one == Class("A", (), (Field("a", "int1"),), (opened("f", steps=(("say", 2),)),)))

    def test_nothing_of_another_kind_is_equal(self):
        for made, values in EXAMPLES:
            thing = made(**values)
            for other in strangers() + [7, "A", (), tuple(values.values()), values, Bag(**values)]:
                self.assertIs(thing == other, False)
                self.assertIs(thing != other, True)

    def test_objects_of_two_classes_are_not_equal(self):
        self.assertFalse(Routine("a", (), None, None) == Method("a", "open"))
        self.assertFalse(Method("a", (), None, None) == Routine("a", (), None, None))
        everything = [made(**values) for made, values in EXAMPLES] + [Library([])]
        for index, one in enumerate(everything):
            for position, other in enumerate(everything):
                self.assertEqual(one == other, index == position)


def field_is_right(field):
    """Return whether a library of one class with one field is valid."""
    return refused([Class("A", (), (field,)), Class("B")]) is None


def method_is_right(method):
    """Return whether a library of one class with one method is valid."""
    return refused([Class("A", (), (), (method,)), Class("B")]) is None


class Names(unittest.TestCase):
    def test_small_names(self):
        for name in ("a", "z", "aB9", "a" * 12, "z99999999999", "this", "field", "if", "int1"):
            self.assertTrue(field_is_right(Field(name, "int1")), name)
            self.assertTrue(method_is_right(opened(name)), name)
            self.assertIsNone(refused([], [routine(name)]), name)

    def test_wrong_small_names(self):
        wrong = ["", "a" * 13, "A", "Ab", "9a", "a_b", "_a", "a b", " a", "a ", "a\n", "a.b", "a-b", "\u00e9",
                 "a\u00e9", "\u0430", "a\u0663", "a\u00b2", "\uff41", "a\0", 0, 1, True, ("a",), Field("a", "int1")]
        for name in wrong + strangers() + oddities():
            self.assertFalse(field_is_right(Field(name, "int1")), repr(name))
            self.assertFalse(method_is_right(opened(name)), repr(name))
            self.assertEqual(refused([], [routine(name)]), (0, "routine", 0), repr(name))

    def test_class_names(self):
        for name in ("A", "Z", "Ab9", "A" * 12, "Aa0000000000", "AZaz09"):
            self.assertIsNone(refused([Class(name)]), name)
        for name in [name for name in wrong_names() if not (isinstance(name, str) and name in ("Z", "AA"))]:
            self.assertEqual(refused([Class(name)]), (0, "name", -1), repr(name))
        for name in ("A" * 13, "9A", "A_", "_A", "\u00c9", "A\u00e9", "A b", "a"):
            self.assertEqual(refused([Class(name)]), (0, "name", -1), repr(name))

    def test_all_signs(self):
        for sign in SMALL_SIGNS + BIG_SIGNS + FIGURES:
            self.assertTrue(field_is_right(Field("a" + sign, "int1")))
            self.assertEqual(field_is_right(Field(sign, "int1")), sign in SMALL_SIGNS)
            self.assertEqual(refused([Class(sign)]) is None, sign in BIG_SIGNS)
        for code in range(300):
            right = chr(code) in SMALL_SIGNS + BIG_SIGNS + FIGURES
            self.assertEqual(field_is_right(Field("a" + chr(code), "int1")), right)


class Forms(unittest.TestCase):
    def test_forms(self):
        for form in ("int1", "int2", "int4", "int8", "A", "B"):
            self.assertTrue(field_is_right(Field("a", form)), form)
            self.assertTrue(method_is_right(opened("f", params=(("p", form),), result=form)), form)
        wrong = ["int", "int3", "int16", "int 1", "Int1", "INT1", "C", "a", "", "int1 ", "this", 1, 8, True,
                 ("int1",), ("A",), Class("A"), "A B"]
        for form in wrong + [value for value in strangers() + oddities() if value is not None]:
            self.assertFalse(field_is_right(Field("a", form)), repr(form))
            self.assertFalse(method_is_right(opened("f", params=(("p", form),))), repr(form))
            self.assertFalse(method_is_right(opened("f", result=form)), repr(form))
            body = Body((("v", form),))
            self.assertFalse(method_is_right(Method("f", "open", (), None, body)), repr(form))
        self.assertFalse(field_is_right(Field("a", None)))
        self.assertFalse(method_is_right(opened("f", params=(("p", None),))))

    def test_starts(self):
        for form, limit in (("int1", 128), ("int2", 32768), ("int4", 2147483648), ("int8", 9223372036854775808)):
            for start in (-limit, -1, 0, 1, limit - 1):
                self.assertTrue(field_is_right(Field("a", form, start)), (form, start))
            for start in (-limit - 1, limit, limit * 2, -limit * 2, 10 ** 30):
                self.assertFalse(field_is_right(Field("a", form, start)), (form, start))

    def test_starts_of_references(self):
        for form in ("A", "B"):
            self.assertTrue(field_is_right(Field("a", form, 0)))
            for start in (1, -1, 8, False, True, None, "", "0"):
                self.assertFalse(field_is_right(Field("a", form, start)), repr(start))

    def test_starts_of_other_kinds(self):
        for form in ("int1", "int8", "A"):
            for start in strangers() + oddities() + [True, False, "0", (0,), (), Field("a", "int1")]:
                self.assertFalse(field_is_right(Field("a", form, start)), repr(start))

    def test_shown_is_a_bool(self):
        for shown in (True, False):
            self.assertTrue(field_is_right(Field("a", "int1", 0, shown)))
            self.assertTrue(method_is_right(opened("f", shown=shown)))
        for shown in strangers() + oddities() + [0, 1, "", "True", ()]:
            self.assertFalse(field_is_right(Field("a", "int1", 0, shown)), repr(shown))
            self.assertFalse(method_is_right(opened("f", shown=shown)), repr(shown))
            self.assertFalse(method_is_right(bare("f", shown=shown)), repr(shown))


class Methods(unittest.TestCase):
    def test_kinds(self):
        for method in (plain("f"), opened("f"), bare("f")):
            self.assertTrue(method_is_right(method))
        for kind in strangers() + ["", "Open", "closed", "shared", "open ", 0, True, ("open",)]:
            self.assertFalse(method_is_right(opened("f", kind=kind)), repr(kind))
            self.assertFalse(method_is_right(Method("f", kind)), repr(kind))

    def test_bodies_by_kind(self):
        for kind in ("plain", "open"):
            self.assertTrue(method_is_right(Method("f", kind, body=Body())))
            for body in strangers() + [(), ((), ()), True, 0, "", Routine("r"), Bag(variables=(), steps=())]:
                self.assertFalse(method_is_right(Method("f", kind, body=body)), repr(body))
        self.assertTrue(method_is_right(Method("f", "bare", body=None)))
        for body in [value for value in strangers() if value is not None] + [Body(), (), False, 0]:
            self.assertFalse(method_is_right(Method("f", "bare", body=body)), repr(body))

    def test_numbers_of_parameters(self):
        names = "pqrstu"
        for many in range(7):
            params = tuple((name, "int1") for name in names[:many])
            self.assertEqual(method_is_right(opened("f", params=params)), many <= 4, many)
            self.assertEqual(method_is_right(bare("f", params=params)), many <= 4, many)

    def test_parameters(self):
        wrong = [(("p", "int1"), ("p", "int2")), (("this", "int1"),), (("P", "int1"),), (("p",),), ("p",), ("pq",),
                 (("p", "int1", 0),), (["p", "int1"],), [("p", "int1")], ("p", "int1"), (("p", "int3"),), ((),),
                 (("", "int1"),), (None,), (("int1", 1),), (1,), (("p", "int1"), None), (("a" * 13, "int1"),)]
        for params in wrong + strangers() + [(value,) for value in strangers()]:
            self.assertFalse(method_is_right(opened("f", params=params)), repr(params))
            self.assertFalse(method_is_right(bare("f", params=params)), repr(params))
            self.assertEqual(refused([], [routine("r", params)]), (0, "routine", 1), repr(params))
        for value in strangers():
            self.assertFalse(method_is_right(opened("f", params=((value, "int1"),))), repr(value))
        self.assertTrue(method_is_right(opened("f", params=(("f", "int1"), ("g", "A"), ("int1", "B")))))

    def test_parameters_may_have_the_names_of_members(self):
        a = Class("A", (), (Field("a", "int1"),), (opened("f", params=(("a", "int1"), ("f", "int1"))),))
        self.assertIsNone(refused([a]))

    def test_results(self):
        for result in (None, "int1", "int8", "A", "B"):
            self.assertTrue(method_is_right(opened("f", result=result)))
        for result in ("", "int3", "C", False, 0, (), ("int1",)):
            self.assertFalse(method_is_right(opened("f", result=result)), repr(result))


def body_is_right(body, params=()):
    """Return whether the body is right in a method, which must be as it is in a routine."""
    right = method_is_right(Method("f", "open", params, None, body))
    assert right == method_is_right(Method("f", "plain", params, None, body))
    found = refused([Class("A"), Class("B")], [routine("r", params, None, body)])
    assert found == (None if right else (0, "routine", 3)), found
    return right


class Bodies(unittest.TestCase):
    def test_numbers_of_variables(self):
        for many in range(19):
            self.assertEqual(body_is_right(Body(tuple((f"v{at}", "int1") for at in range(many)))), many <= 16, many)

    def test_variables(self):
        self.assertTrue(body_is_right(Body((("a", "int1"), ("b", "A"), ("f", "B")))))
        wrong = [(("a", "int1"), ("a", "int1")), (("this", "A"),), (("A", "int1"),), (("a", "int3"),), ("a",), ("ab",),
                 [], [("a", "int1")], (["a", "int1"],), (("a", "int1", 0),), (("a",),), ((),), (("", "int1"),)]
        for variables in wrong + strangers() + [(value,) for value in strangers()]:
            self.assertFalse(body_is_right(Body(variables)), repr(variables))
        for value in strangers():
            self.assertFalse(body_is_right(Body(((value, "int1"),))), repr(value))

    def test_variables_differ_from_parameters(self):
        params = (("p", "int1"), ("q", "int2"))
        self.assertTrue(body_is_right(Body((("a", "int1"),)), params))
        self.assertFalse(body_is_right(Body((("p", "int1"),)), params))
        self.assertFalse(body_is_right(Body((("a", "int1"), ("q", "int1"))), params))

    def test_steps_are_a_tuple_of_anything(self):
        for steps in [(), ((),), (None,), ("nonsense", 7, [], {}), (("say", "nobody"),), (("if",),) * 100]:
            self.assertTrue(body_is_right(Body((), steps)), repr(steps))
        for steps in strangers() + ["", "say", 0, True, [("say", 1)]]:
            self.assertFalse(body_is_right(Body((), steps)), repr(steps))


class Classes(unittest.TestCase):
    def test_numbers_of_bases(self):
        first = [Class(name) for name in "ABCDEF"]
        for kind in ("plain", "shared"):
            for many in range(7):
                bases = tuple((name, kind) for name in "ABCDEF"[:many])
                found = refused(first + [Class("X", bases)])
                self.assertEqual(found, None if many <= 4 else (6, "bases", -1))

    def test_numbers_of_members(self):
        for many in range(11):
            fields = tuple(Field(f"a{at}", "int1") for at in range(many))
            methods = tuple(opened(f"f{at}") for at in range(many))
            self.assertEqual(refused([Class("A", (), fields)]), None if many <= 8 else (0, "fields", -1))
            self.assertEqual(refused([Class("A", (), (), methods)]), None if many <= 8 else (0, "methods", -1))
        self.assertIsNone(refused([Class("A", (), tuple(Field(f"a{at}", "int1") for at in range(8)),
                                         tuple(opened(f"f{at}") for at in range(8)))]))

    def test_wrong_values_do_not_hide_behind_equality(self):
        for odd in oddities():
            self.assertEqual(refused([odd]), (0, "class", -1))
            self.assertEqual(refused([own("A"), Class("B", odd)]), (1, "bases", -1))
            self.assertEqual(refused([own("A"), Class("B", ((odd, "plain"),))]), (1, "bases", 0))
            self.assertEqual(refused([Class("A", closed=odd)]), (0, "marks", -1))
            self.assertEqual(refused([Class("A", lent=odd)]), (0, "marks", -1))


if __name__ == "__main__":
    unittest.main()
