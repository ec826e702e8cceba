"""Builds, the machine and what it refuses (points 34 to 37)."""

import unittest

from oldclients.clients import Resolved
from oldclients.compiler import Code
from oldclients.declared import Body, Class, Field, Routine
from oldclients.libraries import Library
from oldclients.machine import Build, run_code
from oldclients.plain import plain_run
from oldclients.stepping import code_events
from tests.helpers import (Bag, bare, base_library, diamond, doing, main, mine_resolved, own, plain, raised,
                           strangers)


def code_of(variables, *steps, classes=(), lib=None):
    """Return the code of a client."""
    return Code(Resolved(main(variables, *steps, classes=classes), base_library() if lib is None else lib))


def with_words(code, words):
    """Return a code with further rows: they say what lies at tuples (variable, place behind it, size)."""
    where, (params, size, rows) = code.bodies[-1]
    more = tuple((("load", "1", name, ("place", at), width), ("say", "1")) for name, at, width in words)
    code.bodies = code.bodies[:-1] + ((where, (params, size, rows + more)),)
    return code


def returning(name, number, kind="open"):
    """Return a method that returns a number."""
    return doing(name, [("return", number)], (), (), "int4", kind)


class Builds(unittest.TestCase):
    def test_classes_and_bodies(self):
        build = Build(base_library())
        self.assertEqual(build.library, base_library())
        self.assertEqual(build.classes, {
            "Base": (16, (("Base", 0),), ((0, (), ((("Base", "f"), 0),)),), ((), ()), (("n", 8, 4, 5),)),
            "Leaf": (16, (("Leaf", 0), ("Base", 0)), ((0, (), ((("Base", "f"), 0),)),), ((("Base", 0),), ()),
                     (("m", 12, 1, 0),))})
        self.assertEqual(list(build.classes), ["Base", "Leaf"])
        self.assertEqual(build.bodies, {
            ("Base", "f"): ((), 4, ((("load", "1", "this", ("place", 8), 4), ("set", "i", "1", 4)),
                                    (("return", "i"),)))})
        self.assertEqual(Build(library=base_library()), build)

    def test_the_diamond(self):
        self.assertEqual(Build(diamond()).classes["D"], (
            56, (("D", 0), ("B", 0), ("C", 16), ("A", 40)),
            ((0, (40,), ()), (16, (24,), ((("D", "g"), -16),)), (40, (), ((("B", "f"), -40),))),
            ((("B", 0), ("C", 16)), (("A", 40),)), (("d", 32, 2, 0),)))

    def test_bare_classes_and_routines(self):
        routine = Routine("r", (("x", "A"), ("i", "int2")), "int1", Body((), (("return", "i"),)))
        build = Build(Library([own("A", "", "", [bare("m"), plain("p")])], [routine]))
        self.assertEqual(build.classes["A"], (8, (("A", 0),), ((0, (), ((("A", "m"), 0),)),), ((), ()), ()))
        self.assertEqual(build.bodies, {("A", "p"): ((), 8, ()),
                                        ("", "r"): ((("x", 8), ("i", 2)), 1, ((("return", "i"),),))})

    def test_hidden_members_and_lent_classes_in_bodies(self):
        item = Class("A", (), (Field("h", "int1", 0, False),), (doing("m", [("put", "this", "h", 1)]),), False, True)
        routine = Routine("r", (), "A", Body((("x", "A"),), (("new", "x", "A"), ("return", "x"))))
        build = Build(Library([item], [routine]))
        self.assertEqual(build.bodies[("A", "m")], ((), 8, ((("store", "this", ("place", 8), 1, 1),),)))
        self.assertEqual(build.bodies[("", "r")][2][0], (("make", "1", "A", 16), ("set", "x", "1", 8)))

    def test_no_body(self):
        item = Class("A", (), (), (doing("m", [("say", 1), ("say", None)]),))
        self.assertEqual(raised(Build, Library([item])), ("NoBody", ("A", "m"), 1))

    def test_equality(self):
        self.assertEqual(Build(Library([own("A")])), Build(Library([own("A")])))
        self.assertNotEqual(Build(Library([own("A")])), Build(Library([own("B")])))
        self.assertNotEqual(Build(Library([Class("A")])), Build(Library([Class("A", closed=True)])))
        build = Build(Library([]))
        for other in [x for x in strangers() if x is not NotImplemented] + [
                Library([]), Bag(library=Library([]), classes={}, bodies={})]:
            self.assertFalse(build == other)


class Runs(unittest.TestCase):
    def test_the_document(self):
        code, build = Code(mine_resolved()), Build(base_library())
        self.assertEqual(run_code(code, build), ([7], "done"))
        self.assertEqual(run_code(code=code, build=build, most=4), ([7], "done"))
        self.assertEqual(run_code(code, build, most=3), ([], "steps"))

    def test_rows_count_at_their_first_instruction_and_gotos_do_not(self):
        code = code_of("i:int1", ("set", "i", 2), ("while", "i", (("add", "i", "i", -1),)),
                       ("if", 1, (("say", 1),), (("say", 2),)), ("say", 3))
        # set, test, add, test, add, test, if, say, say
        build = Build(base_library())
        self.assertEqual(run_code(code, build, most=9), ([1, 3], "done"))
        self.assertEqual(run_code(code, build, most=8), ([1], "steps"))
        self.assertEqual(run_code(code, build, most=0), ([], "steps"))
        self.assertEqual(run_code(code_of(""), build, most=0), ([], "done"))
        code = code_of("x:Base i:int4", ("new", "x", "Leaf"), ("get", "i", "x", "n"), ("say", "i"))
        self.assertEqual(run_code(code, build, most=3), ([5], "done"))
        self.assertEqual(run_code(code, build, most=2), ([], "steps"))

    def test_null_and_deep(self):
        build = Build(base_library())
        for step in [("get", "i", "x", "n"), ("put", "x", "n", 1), ("call", "i", "x", "f", ())]:
            self.assertEqual(run_code(code_of("x:Leaf i:int4", ("say", 1), step), build), ([1], "null"))
        again = Routine("again", (("x", "int8"),), None, Body((), (
            ("if", "x", (("add", "x", "x", -1), ("do", None, "again", ("x",))), (("say", 1),)),)))
        lib = Library([], [again])
        for many, wanted in ((99, ([1], "done")), (100, ([], "deep"))):
            code = code_of("", ("do", None, "again", (many,)), lib=lib)
            self.assertEqual(run_code(code, Build(lib)), wanted)

    def test_bodies_that_end_without_a_return(self):
        lib = Library([own("A")], [Routine("number", (), "int4", Body()), Routine("null", (), "A", Body())])
        steps = (("set", "i", 5), ("do", "i", "number", ()), ("say", "i"), ("new", "x", "A"), ("do", "x", "null", ()),
                 ("if", "x", (("say", 1),), (("say", 2),)))
        resolved = Resolved(main("i:int4 x:A", *steps), lib)
        self.assertEqual(run_code(Code(resolved), Build(lib)), ([0, 2], "done"))
        self.assertEqual(plain_run(resolved), ([0, 2], "done"))

    def test_plain_methods_of_null(self):
        lib = Library([own("P", "", "", [plain("p")])])
        self.assertEqual(run_code(code_of("x:P", ("call", None, "x", "p", ()), lib=lib), Build(lib)), ([], "null"))

    def test_tables_of_the_build_go_ahead_of_those_of_the_client(self):
        old = Library([own("E", "", "", ["m"]), own("P", "", "", ["f"])])
        new = Library([own("N", "", "n4"), own("D", "", "", ["k"]), own("E", "+D", "", ["m"]),
                       own("Z", "", "", [bare("z")]),
                       own("P", "", "", ["f"])])
        mine = [own("u", "P"), own("v", "E P", "", ["m"]), own("w"), own("x", "", "", ["o"])]
        variables = "e:E p:P u:u v:v x:x"
        code = with_words(code_of(variables, *[("new", name, form) for name, form in [
            ("e", "E"), ("p", "P"), ("u", "u"), ("v", "v"), ("x", "x")]], classes=mine, lib=old),
            [(name, 0, 8) for name in "epuvx"] + [("v", 8, 8)])
        # E and P, and then u, two of v, x
        self.assertEqual(run_code(code, Build(old)), ([1, 2, 3, 4, 6, 5], "done"))
        # D, two of E, Z and P, and then those of the client
        later = with_words(Code(Resolved(main(variables, *[("new", name, form) for name, form in [
            ("p", "P"), ("u", "u"), ("v", "v"), ("x", "x")]], classes=mine), old)),
            [(name, 0, 8) for name in "puvx"] + [("v", 8, 8)])
        self.assertEqual(run_code(later, Build(new)), ([5, 6, 7, 9, 8], "done"))

    def test_bytes(self):
        fields = (Field("a", "int8", 0x0102030405060708), Field("b", "int2", -2))
        lib = Library([Class("P", (), fields)])
        code = with_words(code_of("x:P", ("new", "x", "P"), lib=lib),
                          [("x", at, 1) for at in range(16)] + [("x", 0, 2), ("x", 4, 4), ("x", 8, 2), ("x", 8, 8)])
        self.assertEqual(run_code(code, Build(lib)),
                         ([8, 7, 6, 5, 4, 3, 2, 1, -2, -1, 0, 0, 0, 0, 0, 0, 0x0708, 0x01020304,
                                                       -2, 65534], "done"))

    def test_pieces(self):
        lib = Library([own("S", "", "a2 b1"), own("T", "", "c1")])
        steps = [("new", "s", "S"), ("new", "t", "T"), ("new", "t", "T"), ("new", "s", "S")]
        code = code_of("s:S t:T k:int8", *steps, lib=lib)
        # references are places; they are said by rows that the compiler does not write
        where, (params, size, rows) = code.bodies[-1]
        code.bodies = ((where, (params, size, tuple(row + (("say", row[1][1]),) for row in rows))),)
        self.assertEqual(run_code(code, Build(lib)), ([8, 16, 24, 32], "done"))

    def test_start_values(self):
        p = Class("P", (), (Field("a", "int1", -128), Field("b", "int8", LOW)))
        q = Class("Q", (), (Field("c", "int4", -5),))
        r = Class("R", (("P", "plain"), ("Q", "shared")), (Field("d", "int2", -300), Field("e", "P")))
        lib = Library([p, q, r])
        mine = Class("u", (("R", "plain"),), (Field("k", "int1", 7), Field("l", "int8", HIGH)))
        steps = [("new", "y", "u")]
        for name in "abcdkl":
            steps += [("get", "i", "y", name), ("say", "i")]
        steps += [("get", "p", "y", "e"), ("if", "p", (("say", 1),), (("say", 0),))]
        code = code_of("y:u i:int8 p:P", *steps, classes=[mine], lib=lib)
        self.assertEqual(run_code(code, Build(lib)), ([-128, LOW, -5, -300, 7, HIGH, 0], "done"))

    def test_arguments_and_results_are_kept_modulo_the_size(self):
        echo = Routine("echo", (("x", "int1"), ("y", "int8")), "int2",
                       Body((), (("say", "x"), ("say", "y"), ("return", "y"))))
        lib = Library([], [echo])
        code = code_of("m:int8 i:int1", ("do", "m", "echo", (300, 70000)), ("say", "m"),
                       ("do", "i", "echo", (-129, 255)),
                       ("say", "i"), lib=lib)
        self.assertEqual(run_code(code, Build(lib)), ([44, 70000, 4464, 127, 255, -1], "done"))


LOW, HIGH = -(1 << 63), (1 << 63) - 1


def faults(old, new, variables, *steps, classes=()):
    """Return the events of the code of a client with a build of another library, which end with a fault."""
    code = code_of(variables, *steps, classes=classes, lib=Library(old))
    said, end = run_code(code, Build(Library(*new) if isinstance(new, tuple) else Library(new)))
    events = code_events(code, Build(Library(*new) if isinstance(new, tuple) else Library(new)))
    assert (end, events[-1]) == ("fault", ("end", "fault")), (end, events)
    assert said == [event[1] for event in events if event[0] == "say"]
    return events[:-1]


class Refused(unittest.TestCase):
    def test_classes_that_are_not_there(self):
        old = [own("P"), own("Q", "P")]
        self.assertEqual(faults(old, [], "x:P", ("say", 1), ("new", "x", "P"), ("say", 2)), [("say", 1)])
        self.assertEqual(faults(old, [own("P")], "x:P", ("new", "x", "u"), classes=[own("u", "Q")]), [])
        self.assertEqual(faults(old, [own("Q")], "x:P", ("new", "x", "u"), classes=[own("u", "Q")]), [])

    def test_places_behind_the_last_piece(self):
        old = [own("P", "", "a4 b4")]
        new = [own("P", "", "a4")]
        # the piece has the size that the code has, so that old places lie inside of it
        code = code_of("x:P i:int4", ("new", "x", "P"), ("put", "x", "b", 7), ("get", "i", "x", "b"), ("say", "i"),
                       lib=Library(old))
        self.assertEqual(run_code(code, Build(Library(new))), ([7], "done"))
        # but an object that the build makes has its size
        give = Routine("give", (), "P", Body((("x", "P"),), (("new", "x", "P"), ("return", "x"))))
        client = main("x:P i:int4", ("do", "x", "give", ()), ("get", "i", "x", "b"))
        code = Code(Resolved(client, Library(old, [give])))
        build = Build(Library(new, [give]))
        self.assertEqual(run_code(code, build), ([], "fault"))
        self.assertEqual(code_events(code, build),
                         [("do", "give"), ("new", "P"), ("get", -1, "", ""), ("end", "fault")])
        client = main("x:P i:int4", ("do", "x", "give", ()), ("put", "x", "b", 1))
        self.assertEqual(code_events(Code(Resolved(client, Library(old, [give]))), build),
                         [("do", "give"), ("new", "P"), ("put", -1, "", ""), ("end", "fault")])

    def test_start_values_outside_of_the_piece(self):
        old, new = [own("P", "", "a4")], [own("P", "", "a4 b4")]
        self.assertEqual(faults(old, new, "x:P", ("new", "x", "P")), [("new", "P", "clash")])

    def test_a_pointer_outside_of_the_piece(self):
        old, new = [own("P", "", "a4")], [own("P", "", "", ["f"])]
        self.assertEqual(faults(old, new, "x:P", ("new", "x", "P")), [("new", "P", "clash")])

    def test_start_values_at_places_that_are_no_multiples(self):
        old = [own("P", "", "a1 b1")]
        new = [Class("P", (), (Field("a", "int2", 5),))]
        # P lies at 1 in u
        self.assertEqual(faults(old, new, "y:u", ("new", "y", "u"), classes=[own("v", "", "k1"), own("u", "v P")]),
                         [("new", "u")])

    def test_places_that_are_no_multiples(self):
        for at, width in ((1, 2), (3, 2), (2, 4), (6, 4), (4, 8), (1, 8)):
            code = with_words(code_of("x:Leaf", ("new", "x", "Leaf")), [("x", at, width)])
            self.assertEqual(code_events(code, Build(base_library())),
                             [("new", "Leaf"), ("get", -1, "", ""), ("end", "fault")])

    def test_across_the_end(self):
        lib = Library([own("P", "", "a4 b4 c4")])
        code = code_of("x:P", ("new", "x", "P"), lib=lib)
        self.assertEqual(run_code(with_words(code, [("x", 8, 4), ("x", 11, 1), ("x", 8, 8)]), Build(lib)),
                         ([0, 0], "fault"))
        code = code_of("x:P", ("new", "x", "P"), lib=lib)
        self.assertEqual(run_code(with_words(code, [("x", 12, 1)]), Build(lib)), ([], "fault"))
        # the gap in front of the next piece can be read
        code = code_of("x:P y:P", ("new", "x", "P"), ("new", "y", "P"), lib=lib)
        self.assertEqual(run_code(with_words(code, [("x", 8, 8), ("x", 12, 4)]), Build(lib)), ([0, 0], "done"))

    def test_places_below_8(self):
        code = code_of("x:Leaf", ("new", "x", "Leaf"))
        where, (params, size, rows) = code.bodies[-1]
        for way in (("place", -8), ("place", -4), ("place", -100)):
            for row, word in (((("load", "1", "x", way, 4),), "get"), ((("store", "x", way, 4, 1),), "put")):
                code.bodies = ((where, (params, size, (rows[0], row))),)
                self.assertEqual(code_events(code, Build(base_library())),
                                 [("new", "Leaf"), (word, -1, "", ""), ("end", "fault")])

    def test_pointers_that_are_not_there(self):
        # P is not open any more: what its users take for a pointer is a field, which is no number of a table
        old = [own("P", "", "a8", ["f"]), own("Q")]
        for start in (0, -1, 5, 1 << 40):
            new = [Class("P", (), (Field("b", "int8", start), Field("a", "int8"))), own("Q", "", "", ["z"])]
            self.assertEqual(faults(old, new, "x:P", ("new", "x", "P"), ("call", None, "x", "f", ())), [("new", "P")])
            self.assertEqual(faults(old, new, "x:P y:Q", ("new", "x", "P"), ("cast", "y", "x")), [("new", "P")])
        # a place behind the last piece holds no pointer
        small = [own("P"), own("Q", "", "", ["z"])]
        give = Routine("give", (), "P", Body((("x", "P"),), (("new", "x", "P"), ("return", "x"))))
        code = Code(Resolved(main("x:P", ("do", "x", "give", ()), ("call", None, "x", "f", ())), Library(old, [give])))
        self.assertEqual(code_events(code, Build(Library(small, [give]))),
                         [("do", "give"), ("new", "P"), ("end", "fault")])

    def test_ways_that_are_not_there(self):
        old = [own("P", "", "a4"), own("Q", "+P", "b4", ["f"])]
        new = [own("P", "", "a4"), own("Q", "P", "b4", ["f"])]
        for step in [("set", "p", "q"), ("get", "i", "q", "a"), ("put", "q", "a", 1)]:
            self.assertEqual(faults(old, new, "q:Q p:P i:int1", ("new", "q", "Q"), step), [("new", "Q")])

    def test_a_way_of_null_is_not_looked_up(self):
        old = Library([own("P", "", "a4"), own("Q", "+P", "b4", ["f"])])
        code = code_of("q:Q p:P", ("set", "p", "q"), ("if", "p", (), (("say", 1),)), lib=old)
        self.assertEqual(run_code(code, Build(Library([own("P"), own("Q")]))), ([1], "done"))

    def test_entries_that_are_not_there(self):
        old, new = [own("P", "", "", ["e", "f"])], [own("P", "", "", ["e"])]
        self.assertEqual(faults(old, new, "x:P", ("new", "x", "P"), ("call", None, "x", "f", ())), [("new", "P")])

    def test_entries_without_a_body(self):
        old, new = [own("P", "", "", ["f"])], [own("P", "", "", [bare("f")])]
        self.assertEqual(faults(old, new, "x:P", ("new", "x", "P"), ("call", None, "x", "f", ())), [("new", "P")])
        # the old table of u leads to the old method of Q
        old, new = [own("P", "", "", ["f"]), own("Q", "P", "", ["f"])], [own("P", "", "", ["f"]), own("Q", "P")]
        self.assertEqual(faults(old, new, "x:P", ("new", "x", "u"), ("call", None, "x", "f", ()),
                                classes=[own("u", "Q")]),
                         [("new", "u")])

    def test_entries_without_a_method(self):
        root = own("R", "", "", ["f"])
        old = Library([root, own("P", "+R"), own("Q", "+R")])
        routines = [Routine("f", (), None, Body((), (("say", 9),)))]
        new = Library([root, own("P", "+R", "", ["f"]), own("Q", "+R", "", ["f"])], routines)
        client = Resolved(main("x:R", ("new", "x", "u"), ("call", None, "x", "f", ()), classes=[own("u", "P Q")]), old)
        self.assertEqual(run_code(Code(client, new), Build(new)), ([], "fault"))
        self.assertEqual(code_events(Code(client, new), Build(new)), [("new", "u"), ("end", "fault")])

    def test_bodies_that_are_not_there(self):
        old, new = [own("P", "", "", [plain("p")])], [own("P")]
        self.assertEqual(faults(old, new, "x:P", ("new", "x", "P"), ("call", None, "x", "p", ())),
                         [("new", "P"), ("call", 0, "P", "p")])
        code = Code(Resolved(main("", ("say", 1), ("do", None, "r", ())), Library([], [Routine("r", body=Body())])))
        self.assertEqual(run_code(code, Build(Library([]))), ([1], "fault"))

    def test_library_classes_go_by_the_build(self):
        old = [Class("P", (), (Field("n", "int4", 5), Field("m", "int4", 6)), (returning("f", 1),))]
        new = [Class("P", (), (Field("m", "int4", 8), Field("n", "int4", 7)), (returning("g", 3), returning("f", 2)))]
        code = code_of("x:P i:int4", ("new", "x", "u"), ("get", "i", "x", "n"), ("say", "i"), ("new", "x", "P"),
                       ("get", "i", "x", "n"), ("say", "i"), ("call", "i", "x", "f", ()), ("say", "i"),
                       classes=[own("u", "P")], lib=Library(old))
        self.assertEqual(run_code(code, Build(Library(old))), ([5, 5, 1], "done"))
        self.assertEqual(run_code(code, Build(Library(new))), ([8, 8, 3], "done"))

    def test_client_classes_go_by_the_code(self):
        old = [own("P", "", "", [returning("f", 1)])]
        new = [own("P", "", "", [returning("g", 3), returning("f", 2)])]
        code = code_of("x:P i:int4", ("new", "x", "u"), ("call", "i", "x", "f", ()), ("say", "i"),
                       classes=[own("u", "P")],
                       lib=Library(old))
        self.assertEqual(run_code(code, Build(Library(new))), ([2], "done"))


if __name__ == "__main__":
    unittest.main()
