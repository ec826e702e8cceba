"""Events of plain runs and of code, and where they part (points 38 and 39)."""

import unittest

from oldclients.clients import Resolved
from oldclients.compiler import Code
from oldclients.declared import Body, Class, Field, Routine
from oldclients.libraries import Library
from oldclients.machine import Build
from oldclients.stepping import code_events, out_of_step, plain_events
from tests.helpers import bare, base_library, doing, main, mine_resolved, opened, own, plain, raised

DONE = ("end", "done")


def returning(name, number, kind="open"):
    """Return a method that returns a number."""
    return doing(name, [("return", number)], (), (), "int4", kind)


def both(variables, *steps, classes=(), lib, most=1000):
    """Return the events of a client with its own library, which are those of its code."""
    client = Resolved(main(variables, *steps, classes=classes), lib)
    events = plain_events(client, most=most)
    assert code_events(Code(client), Build(lib), most=most) == events
    assert plain_events(client, lib, most=most) == events
    assert out_of_step(client, Code(client), Build(lib), most=most) is None
    return events


def old_code(old, new, variables, *steps, classes=(), routines=(), most=1000):
    """Return the events of old code with a new build, and where they part from the plain ones (or the error)."""
    client = Resolved(main(variables, *steps, classes=classes), Library(old, routines))
    build = Build(Library(new, routines))
    code = Code(client)
    error = raised(out_of_step, client, code, build, most=most)
    return code_events(code, build, most=most), error or out_of_step(client, code, build, most=most)


class Own(unittest.TestCase):
    def test_the_document(self):
        wanted = [("new", "mine"), ("call", 0, "mine", "f"), ("say", 7), DONE]
        client, build = mine_resolved(), Build(base_library())
        self.assertEqual(code_events(Code(client), build), wanted)
        self.assertEqual(plain_events(client), wanted)
        self.assertEqual(plain_events(resolved=client, library=base_library(), most=4), wanted)
        self.assertEqual(code_events(code=Code(client), build=build, most=3), wanted[:2] + [("end", "steps")])
        self.assertIsNone(out_of_step(resolved=client, code=Code(client), build=build, most=2))

    def test_each_event(self):
        a = Class("A", (), (Field("a", "int4", 5), Field("r", "A")), (returning("f", 1), plain("p")))
        lib = Library([a, own("B", "A", "b1", [returning("f", 2)]), own("C", "+B", "c1"), own("Z")],
                      [Routine("talk", (), None, Body((), (("say", 3),)))])
        events = both("x:A b:B c:C z:Z i:int4", ("new", "b", "B"), ("new", "c", "C"), ("get", "i", "c", "a"),
                      ("put", "b", "b", 1), ("put", "b", "r", "c"), ("get", "x", "b", "r"),
                      ("call", None, "x", "f", ()),
                      ("call", None, "c", "p", ()), ("do", None, "talk", ()), ("cast", "c", "x"), ("cast", "z", "x"),
                      ("say", "i"),
                      ("set", "x", None), ("cast", "b", "x"), ("if", 1, (), ()), ("add", "i", 1, 1),
                      ("less", "i", 1, 2),
                      ("return", None), lib=lib)
        self.assertEqual(events, [
            ("new", "B"), ("new", "C"), ("get", 1, "A", "a"), ("put", 0, "B", "b"), ("put", 0, "A", "r"),
            ("get", 0, "A", "r"), ("call", 1, "B", "f"), ("call", 1, "A", "p"), ("do", "talk"), ("say", 3), ("cast", 1),
            ("cast", -1), ("say", 5), ("cast", -1), DONE])

    def test_own_classes_and_library_bodies(self):
        inner = doing("out", [("get", "i", "this", "h"), ("put", "this", "h", 4), ("call", None, "this", "hid", ()),
                              ("call", None, "this", "f", ())], (("i", "int1"),), (), None, "plain")
        p = Class("P", (), (Field("h", "int1", 3, False),), (opened("f"), inner, opened("hid", shown=False)))
        events = both("y:v", ("new", "y", "v"), ("call", None, "y", "out", ()), ("put", "y", "k", 1), lib=Library([p]),
                      classes=[own("u", "P", "", ["hid"]), own("v", "u", "k4", ["f"])])
        self.assertEqual(events, [("new", "v"), ("call", 0, "P", "out"), ("get", 0, "P", "h"), ("put", 0, "P", "h"),
                                  ("call", 0, "P", "hid"), ("call", 0, "v", "f"), ("put", 0, "v", "k"), DONE])

    def test_null_is_no_event(self):
        lib = Library([own("P", "", "a4", ["f", plain("p")])])
        for step in [("get", "i", "x", "a"), ("put", "x", "a", 1), ("call", None, "x", "f", ()),
                     ("call", None, "x", "p", ())]:
            self.assertEqual(both("x:P i:int4", ("say", 1), step, lib=lib), [("say", 1), ("end", "null")])

    def test_deep(self):
        again = Routine("again", (), None, Body((), (("do", None, "again", ()),)))
        self.assertEqual(both("", ("do", None, "again", ()), lib=Library([], [again])),
                         [("do", "again")] * 101 + [("end", "deep")])
        method = doing("m", [("call", None, "this", "m", ())])
        direct = doing("d", [("call", None, "this", "d", ())], kind="plain")
        lib = Library([own("P", "", "", [method, direct])])
        for name in "md":
            events = both("x:P", ("new", "x", "P"), ("call", None, "x", name, ()), lib=lib)
            self.assertEqual(events, [("new", "P")] + [("call", 0, "P", name)] * 101 + [("end", "deep")])

    def test_steps(self):
        lib = Library([])
        self.assertEqual(both("", ("while", 1, (("say", 1),)), lib=lib, most=4), [("say", 1)] * 2 + [("end", "steps")])
        self.assertEqual(both("", lib=lib, most=0), [DONE])

    def test_lists_are_new(self):
        client = mine_resolved()
        plain_events(client).append(5)
        self.assertEqual(plain_events(client)[-1], DONE)


class Later(unittest.TestCase):
    def test_plain_events_with_a_later_library(self):
        old, new = Library([own("P", "", "", [returning("f", 1)]), own("Q", "P")]), Library([
            own("P", "", "", [returning("f", 1)]), own("Q", "P", "", [returning("f", 2)])])
        client = Resolved(main("x:P i:int4", ("new", "x", "Q"), ("call", "i", "x", "f", ()), ("say", "i")), old)
        self.assertEqual(plain_events(client), [("new", "Q"), ("call", 0, "P", "f"), ("say", 1), DONE])
        self.assertEqual(plain_events(client, new), [("new", "Q"), ("call", 0, "Q", "f"), ("say", 2), DONE])

    def test_faults_of_plain_runs_are_no_events(self):
        old, new = Library([own("P", "", "", ["f"])]), Library([own("P", "", "", [bare("f")])])
        client = Resolved(main("x:P", ("new", "x", "u"), ("call", None, "x", "f", ()), classes=[own("u", "P")]), old)
        self.assertEqual(plain_events(client, new), [("new", "u"), ("end", "fault")])
        self.assertEqual(code_events(Code(client), Build(new)), [("new", "u"), ("end", "fault")])
        self.assertIsNone(out_of_step(client, Code(client), Build(new)))

    def test_lacks(self):
        later = Library([own("Base"), own("Leaf", "Base")])
        error = ("Lacks", ("open", "Base", "f", (), "int4"))
        self.assertEqual(raised(plain_events, mine_resolved(), later), error)
        self.assertEqual(raised(out_of_step, mine_resolved(), Code(mine_resolved()), Build(later)), error)
        # code_events asks for nothing: the table of mine leads to f as it did, but Base has no pointer to it there
        self.assertEqual(code_events(Code(mine_resolved()), Build(later))[-1][0], "end")

    def test_another_field(self):
        old, new = [own("P", "", "a4 b4")], [own("P", "", "b4 a4")]
        events, at = old_code(old, new, "x:P i:int4", ("new", "x", "P"), ("put", "x", "a", 1), ("get", "i", "x", "b"))
        self.assertEqual(events, [("new", "P"), ("put", 0, "P", "b"), ("get", 0, "P", "a"), DONE])
        self.assertEqual(at, 1)

    def test_a_place_that_is_no_field(self):
        # nothing, two fields, a part of a field, a part of a pointer
        for new in (own("P", "", "a4"), own("P", "", "a4 c2 d2"), own("P", "", "a8"), own("P", "", "", ["f"])):
            events, _ = old_code([own("P", "", "a4 b4")], [new], "x:P i:int4", ("new", "x", "P"),
                                 ("get", "i", "x", "b"))
            self.assertEqual(events, [("new", "P"), ("get", -1, "", ""), DONE])

    def test_a_pointer_is_no_field(self):
        events, at = old_code([own("P", "", "a8")], [own("P", "", "", ["f"])], "x:P i:int8", ("new", "x", "P"),
                              ("get", "i", "x", "a"), ("say", "i"))
        self.assertEqual(events, [("new", "P"), ("get", -1, "", ""), ("say", 1), DONE])
        self.assertEqual(at, ("Lacks", ("field", "P", "a", "int8")))

    def test_a_field_of_another_object(self):
        # the old place of b in an object that the new build makes lies in the next piece
        old, new = [own("P", "", "a4 z4 b4")], [own("P", "", "a4 b4")]
        give = Routine("give", (), "P", Body((("x", "P"),), (("new", "x", "P"), ("return", "x"))))
        events, at = old_code(old, [Class("P", (),
                                          (Field("a", "int4"), Field("b", "int4"), Field("z", "int4", 0, False)))],
                              "x:P i:int4", ("do", "x", "give", ()), ("get", "i", "x", "b"), routines=[give])
        self.assertEqual((events[2], at), (("get", 0, "P", "z"), 2))
        events, at = old_code(old, new, "x:P y:P i:int4", ("do", "x", "give", ()), ("do", "y", "give", ()),
                              ("get", "i", "x", "b"), routines=[give])
        self.assertEqual((events[4], at), (("get", 1, "P", "a"), 4))

    def test_objects_that_clash(self):
        old, new = [own("P", "", "a4"), own("Q", "", "c4")], [own("P", "", "a4 b4"), own("Q", "", "c4")]
        for classes in ([own("u", "P", "k4")], [own("u", "P Q")], [own("u", "Q P", "k4")]):
            events, at = old_code(old, new, "y:u", ("new", "y", "u"), classes=classes)
            self.assertEqual((events[0], at), (("new", "u", "clash"), 0))
        self.assertEqual(old_code(old, new, "y:u", ("new", "y", "u"), classes=[own("u", "P", "k4")])[0],
                         [("new", "u", "clash"), DONE])
        # beyond the piece: the machine refuses the start value, and tells the clash nevertheless
        self.assertEqual(old_code(old, new, "x:P", ("new", "x", "P"))[0], [("new", "P", "clash"), ("end", "fault")])
        self.assertEqual(old_code(old, new, "y:u", ("new", "y", "u"), classes=[own("u", "P")])[0],
                         [("new", "u", "clash"), ("end", "fault")])

    def test_a_pointer_that_clashes(self):
        old, new = [own("P", "", "a4 b4")], [own("P", "", "a4 b4", ["f"])]
        events, _ = old_code(old, new, "y:u", ("new", "y", "u"), classes=[own("u", "P", "k8")])
        self.assertEqual(events, [("new", "u", "clash"), DONE])
        events, _ = old_code(old, [own("P", "", "", ["f"])], "x:P", ("new", "x", "P"))
        self.assertEqual(events, [("new", "P"), DONE])

    def test_larger_objects_do_not_clash(self):
        old, new = [own("P", "", "a4 b4")], [own("P", "", "a4")]
        self.assertEqual(old_code(old, new, "y:u", ("new", "y", "u"), classes=[own("u", "P", "k8")])[0],
                         [("new", "u"), DONE])

    def test_refused_start_values_are_events(self):
        events, at = old_code([own("P", "", "a1 b1")], [Class("P", (), (Field("c", "int2"),))], "y:u",
                              ("new", "y", "u"),
                              classes=[own("v", "", "k1"), own("u", "v P")])
        self.assertEqual((events, at), ([("new", "u"), ("end", "fault")], 1))

    def test_classes_that_are_refused_are_none(self):
        events, at = old_code([own("P"), own("Q")], [own("P")], "y:u", ("say", 1), ("new", "y", "u"),
                              classes=[own("u", "Q")])
        self.assertEqual((events, at), ([("say", 1), ("end", "fault")], ("Lacks", ("derive", "Q"))))

    def test_parts_lie_where_the_kind_says(self):
        # Q lies elsewhere in the new P: the kind of u tells the old place, at which its fields are no fields of Q
        old = [own("Q", "", "q4", [plain("p")]), own("R", "", "r4"), own("P", "Q R")]
        new = [own("Q", "", "q4", [plain("p")]), own("R", "", "r4"), own("P", "R Q")]
        events, at = old_code(old, new, "y:u i:int4", ("new", "y", "u"), ("get", "i", "y", "q"),
                              ("call", None, "y", "p", ()),
                              classes=[own("u", "P")])
        self.assertEqual((events, at), ([("new", "u"), ("get", 0, "Q", "q"), ("call", 0, "Q", "p"), DONE], None))
        events, at = old_code(old, new, "x:P i:int4", ("new", "x", "P"), ("get", "i", "x", "q"),
                              ("call", None, "x", "p", ()))
        self.assertEqual((events, at), ([("new", "P"), ("get", 0, "R", "r"), ("call", -1, "Q", "p"), DONE], 1))

    def test_a_reference_that_is_not_the_part_meant(self):
        old = [own("Q", "", "", [returning("f", 1)]), own("R", "", "", [returning("g", 2)]), own("P", "Q R")]
        new = [own("Q", "", "", [returning("f", 1)]), own("R", "", "", [returning("g", 2)]), own("P", "R Q")]
        events, at = old_code(old, new, "x:P i:int4", ("new", "x", "P"), ("call", "i", "x", "f", ()), ("say", "i"))
        # the place of Q is that of R now: entry 0 there is g, which gets the reference to its part
        self.assertEqual((events, at), ([("new", "P"), ("call", 0, "R", "g"), ("say", 2), DONE], 1))

    def test_casts(self):
        old = [own("Q", "", "q4", ["f"]), own("R", "", "r4", ["g"]), own("P", "Q R")]
        new = [own("Q", "", "q4", ["f"]), own("R", "", "r4", ["g"]), own("P", "R Q")]
        events, at = old_code(old, new, "x:P r:R", ("new", "x", "P"), ("cast", "r", "x"), ("set", "r", None),
                              ("cast", "x", "r"))
        self.assertEqual((events, at), ([("new", "P"), ("cast", 0), ("cast", -1), DONE], None))
        # from a part of a wrong class the pointer still tells the object
        events, at = old_code(old, new, "x:P r:R q:Q", ("new", "x", "P"), ("set", "q", "x"), ("cast", "r", "q"),
                              ("cast", "x", "q"))
        self.assertEqual((events, at), ([("new", "P"), ("cast", 0), ("cast", 0), DONE], None))

    def test_a_cast_by_a_wrong_pointer(self):
        # P has a field that is the number of the table of D, where its users take it for a pointer
        old = [own("E", "", "", ["e"]), own("D", "E", "", ["d"]), own("P", "", "", ["f"])]
        new = [own("E", "", "", ["e"]), own("D", "E", "", ["d"]), Class("P", (), (Field("n", "int8", 2),))]
        events, at = old_code(old, new, "x:P d:D", ("new", "x", "P"), ("cast", "d", "x"))
        self.assertEqual((events, at), ([("new", "P"), ("cast", -1), DONE], ("Lacks", ("cast", "P"))))

    def test_direct_calls_of_bodies_that_are_not_there(self):
        events, at = old_code([own("P", "", "", [plain("p")])], [own("P")], "x:P", ("new", "x", "P"),
                              ("call", None, "x", "p", ()))
        self.assertEqual((events, at), ([("new", "P"), ("call", 0, "P", "p"), ("end", "fault")],
                                        ("Lacks", ("plain", "P", "p", (), ""))))

    def test_entries_and_ways_that_are_refused_are_none(self):
        old, new = [own("P", "", "", ["e", "f"])], [own("P", "", "", ["f"])]
        events, at = old_code(old, new, "x:P", ("new", "x", "P"), ("call", None, "x", "f", ()))
        self.assertEqual((events, at), ([("new", "P"), ("end", "fault")], 1))
        old, new = [own("P", "", "a4"), own("Q", "+P")], [own("P", "", "a4"), own("Q", "P")]
        events, at = old_code(old, new, "q:Q i:int4", ("new", "q", "Q"), ("get", "i", "q", "a"))
        self.assertEqual((events, at), ([("new", "Q"), ("end", "fault")], 1))

    def test_a_refused_load_is_an_event(self):
        give = Routine("give", (), "P", Body((("x", "P"),), (("new", "x", "P"), ("return", "x"))))
        events, at = old_code([own("P", "", "a8 b8")], [own("P", "", "b8")], "x:P i:int4", ("do", "x", "give", ()),
                              ("get", "i", "x", "b"), routines=[give])
        self.assertEqual((events, at), ([("do", "give"), ("new", "P"), ("get", -1, "", ""), ("end", "fault")], 2))


class OutOfStep(unittest.TestCase):
    def test_the_length_of_the_shorter_one(self):
        client = Resolved(main("", ("say", 1), ("say", 2)), Library([]))
        code = Code(client)
        where, (params, size, rows) = code.bodies[-1]
        events = plain_events(client)
        self.assertEqual(len(events), 3)
        # "end" is always the last event, so one of them is never the beginning of the other
        code.bodies = ((where, (params, size, rows[:1])),)
        self.assertEqual(out_of_step(client, code, Build(Library([]))), 1)
        code.bodies = ((where, (params, size, rows + rows)),)
        self.assertEqual(out_of_step(client, code, Build(Library([]))), 2)

    def test_most_counts_for_both(self):
        client = Resolved(main("x:P i:int4", ("say", 1), ("new", "x", "P"), ("get", "i", "x", "a")),
                          Library([own("P", "", "a4 b4")]))
        build = Build(Library([own("P", "", "b4 a4")]))
        self.assertEqual([out_of_step(client, Code(client), build, most=most) for most in range(5)],
                         [None, None, None, 2, 2])

    def test_code_that_was_compiled_anew(self):
        old, new = Library([own("P", "", "a4 b4")]), Library([own("P", "", "b4 a4 c1")])
        client = Resolved(main("y:u i:int4", ("new", "y", "u"), ("get", "i", "y", "a"), classes=[own("u", "P", "k2")]),
                          old)
        self.assertEqual(out_of_step(client, Code(client), Build(new)), 0)
        self.assertIsNone(out_of_step(client, Code(client, new), Build(new)))

    def test_a_class_of_the_client_that_is_not_open_any_more(self):
        old, new = Library([own("P", "", "a8", [opened("h", shown=False)])]), Library([own("P", "", "a8")])
        client = Resolved(main("y:u", ("new", "y", "u"), ("cast", "y", "y"), classes=[own("u", "P")]), old)
        self.assertEqual(plain_events(client, new), [("new", "u"), ("cast", 0), DONE])
        self.assertEqual(code_events(Code(client, new), Build(new)), [("new", "u"), ("end", "fault")])
        self.assertEqual(out_of_step(client, Code(client, new), Build(new)), 1)

    def test_the_library_of_the_build_counts(self):
        one, other = Library([own("P", "", "", [returning("f", 1)])]), Library([own("P", "", "", [returning("f", 2)])])
        client = Resolved(main("x:P i:int4", ("new", "x", "P"), ("call", "i", "x", "f", ()), ("say", "i")), one)
        self.assertIsNone(out_of_step(client, Code(client), Build(one)))
        self.assertIsNone(out_of_step(client, Code(client), Build(other)))
        self.assertEqual(code_events(Code(client), Build(other))[2], ("say", 2))


if __name__ == "__main__":
    unittest.main()
