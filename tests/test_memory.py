"""Objects in bytes: tables, pieces, numbers, references, fields and owners (points 21 to 25)."""

import unittest

from oldclients.declared import Class, Field
from oldclients.layouts import Layout
from oldclients.libraries import Library
from oldclients.memory import Memory, owners
from tests.helpers import bare, diamond, oddities, opened, own, raised, strangers, wrong_names

NO_PLACES = strangers() + oddities() + ["8", "", "A", True, False, (8,), Class("A")]


def all_starts():
    """Return a library with start values of each form, also in plain and shared bases."""
    low = Field("low", "int8", -(1 << 63))
    high = Field("high", "int8", (1 << 63) - 1)
    p = Class("P", (), (Field("a", "int1", -128), Field("b", "int2", -2), low))
    q = Class("Q", (), (Field("c", "int4", -2147483648), high), (opened("f"),))
    r = Class("R", (("P", "plain"), ("Q", "shared")), (Field("d", "int1", 127), Field("e", "P")))
    return Library([p, q, r])


class Pieces(unittest.TestCase):
    def test_the_diamond_of_the_document(self):
        memory = Memory(diamond())
        self.assertEqual((memory.end(), memory.objects()), (8, []))
        self.assertEqual(memory.make("D"), 8)
        self.assertEqual(memory.end(), 64)
        self.assertEqual(memory.objects(), [("D", 8)])

    def test_pieces_begin_at_multiples_of_8(self):
        memory = Memory(Library([own("E"), own("S", "", "a1 b2"), own("L", "", "a8")]))
        self.assertEqual([memory.make(name) for name in ("S", "E", "E", "L", "S")], [8, 16, 24, 32, 40])
        self.assertEqual(memory.end(), 44)
        self.assertEqual(memory.make(name="E"), 48)
        self.assertEqual(memory.end(), 49)
        self.assertEqual(memory.objects(), [("S", 8), ("E", 16), ("E", 24), ("L", 32), ("S", 40), ("E", 48)])

    def test_lists_are_new(self):
        memory = Memory(diamond())
        memory.make("A")
        memory.objects().append("x")
        self.assertEqual(memory.objects(), [("A", 8)])

    def test_tables_are_numbered_over_all_classes(self):
        memory = Memory(diamond())
        wanted, numbers = {}, 0
        for name in ("A", "B", "C", "D"):
            wanted[name] = [numbers + 1 + k for k in range(len(Layout(diamond()).tables(name)))]
            numbers += len(wanted[name])
        self.assertEqual(wanted, {"A": [1], "B": [2, 3], "C": [4, 5], "D": [6, 7, 8]})
        for name in ("D", "B", "A", "C"):
            place = memory.make(name)
            pointers = Layout(diamond()).pointers(name)
            self.assertEqual([memory.load(place + at, 8) for _, at in pointers], wanted[name])

    def test_tables_of_bare_and_of_flat_classes_are_numbered_too(self):
        memory = Memory(Library([own("Z"), own("A", methods=[bare("f")]), own("B", "A", "", ["f"]),
                                 own("Y", "", "y4")]))
        place = memory.make("B")
        self.assertEqual(memory.load(place, 8), 2)
        self.assertEqual(memory.load(memory.make("Y"), 4), 0)

    def test_start_values_and_all_else_0(self):
        library = all_starts()
        memory = Memory(library)
        place = memory.make("R")
        layout = Layout(library)
        self.assertEqual(layout.places("R"), [("R", 0), ("P", 8), ("Q", 40)])
        self.assertEqual([memory.load(place + 8, 1), memory.load(place + 10, 2), memory.load(place + 16, 8)],
                         [-128, -2, -(1 << 63)])
        self.assertEqual([memory.load(place + 24, 1), memory.load(place + 32, 8)], [127, 0])
        self.assertEqual([memory.load(place + 48, 4), memory.load(place + 56, 8)], [-2147483648, (1 << 63) - 1])
        rest = [at for at, owner in enumerate(owners(library, "R")) if owner[0] == "gap"]
        self.assertEqual(rest, [9, 12, 13, 14, 15, 25, 26, 27, 28, 29, 30, 31, 52, 53, 54, 55])
        self.assertEqual([memory.load(place + at, 1) for at in rest], [0] * len(rest))

    def test_no_class(self):
        library = Library([own("A", methods=[bare("f")]), own("B", "A"), own("C", "B", "", ["f"])])
        for name in ["A", "B"] + wrong_names():
            memory = Memory(library)
            self.assertEqual(raised(memory.make, name), ("NoClass", name))
            self.assertEqual((memory.end(), memory.objects()), (8, []))
        self.assertEqual(Memory(library).make("C"), 8)

    def test_lent_and_closed_classes_are_made(self):
        memory = Memory(Library([own("A", closed=True, lent=True)]))
        self.assertEqual(memory.make("A"), 8)

    def test_two_memories_do_not_know_of_each_other(self):
        library = diamond()
        one, other = Memory(library), Memory(library)
        one.make("D")
        one.put(8, "D", "D", "d", 7)
        self.assertEqual((other.end(), other.objects()), (8, []))
        self.assertFalse(other.is_part(8, "D"))
        other.make("D")
        self.assertEqual((one.get(8, "D", "D", "d"), other.get(8, "D", "D", "d")), (7, 0))
        self.assertEqual(one.objects(), [("D", 8)])


class Numbers(unittest.TestCase):
    def test_the_lowest_byte_lies_first(self):
        memory = Memory(Library([own("L", "", "a8")]))
        memory.make("L")
        memory.put(8, "L", "L", "a", 0x0102030405060708)
        self.assertEqual([memory.load(at, 1) for at in range(8, 16)], [8, 7, 6, 5, 4, 3, 2, 1])
        self.assertEqual([memory.load(8, 2), memory.load(10, 2), memory.load(12, 4)], [0x0708, 0x0506, 0x01020304])

    def test_numbers_are_read_with_a_sign(self):
        memory = Memory(Library([own("L", "", "a8")]))
        memory.make("L")
        memory.put(8, "L", "L", "a", 0x80ff7f8000ff80)
        self.assertEqual([memory.load(at, 1) for at in range(8, 16)], [-128, -1, 0, -128, 127, -1, -128, 0])
        self.assertEqual([memory.load(8, 2), memory.load(14, 2)], [-128, 128])

    def test_wrong_sizes(self):
        memory = Memory(diamond())
        memory.make("D")
        for size in [0, 3, 5, 6, 7, 16, -1, 9] + NO_PLACES:
            self.assertEqual(raised(memory.load, 8, size), ("NoPlace", 8))

    def test_wrong_places(self):
        memory = Memory(Library([own("S", "", "a4 b1")]))
        memory.make("S")
        memory.make("S")
        self.assertEqual(memory.end(), 24)
        for place in [0, 1, 4, 7, -1, -8, 24, 25, 1 << 70, -(1 << 70)] + NO_PLACES:
            self.assertEqual(raised(memory.load, place, 1), ("NoPlace", place))
        for size in (2, 4, 8):
            for place in range(8, 24):
                wanted = None if place % size == 0 else ("NoPlace", place)
                self.assertEqual(raised(memory.load, place, size), wanted)
        self.assertEqual(memory.load(place=23, size=1), 0)

    def test_across_the_end(self):
        memory = Memory(Library([own("S", "", "a2 b1"), own("T", "", "a4 b4 c4")]))
        memory.make("S")
        self.assertEqual(memory.end(), 12)
        self.assertEqual(raised(memory.load, 8, 8), ("NoPlace", 8))
        self.assertEqual(memory.load(8, 4), 0)
        memory.make("T")
        self.assertEqual(memory.end(), 28)
        self.assertEqual(raised(memory.load, 24, 8), ("NoPlace", 24))
        self.assertEqual(memory.load(12, 4), 0)

    def test_an_empty_memory_has_nothing_to_load(self):
        memory = Memory(Library([]))
        self.assertEqual(raised(memory.load, 8, 1), ("NoPlace", 8))
        self.assertEqual(raised(memory.load, 0, 1), ("NoPlace", 0))


class References(unittest.TestCase):
    def setUp(self):
        self.memory = Memory(diamond())
        self.memory.make("A")
        self.memory.make("D")

    def test_is_part(self):
        parts = {(8, "A"), (24, "D"), (24, "B"), (40, "C"), (64, "A")}
        for name in "ABCD":
            for place in list(range(-8, 90)) + [1 << 70]:
                self.assertIs(self.memory.is_part(place, name), (place, name) in parts, (place, name))
        for value in NO_PLACES:
            self.assertIs(self.memory.is_part(value, "A"), False)
        for name in wrong_names():
            self.assertEqual(raised(self.memory.is_part, 8, name), ("NoClass", name))

    def test_move_to_each_part(self):
        moves = {("A", "A"): 64, ("B", "B"): 24, ("B", "A"): 64, ("C", "C"): 40, ("C", "A"): 64, ("D", "D"): 24,
                 ("D", "B"): 24, ("D", "C"): 40, ("D", "A"): 64}
        starts = {"A": 64, "B": 24, "C": 40, "D": 24}
        for (name, ancestor), wanted in moves.items():
            self.assertEqual(self.memory.move(starts[name], name, ancestor), wanted)
            self.assertEqual(self.memory.move(0, name, ancestor), 0)
        self.assertEqual(self.memory.move(place=8, name="A", ancestor="A"), 8)

    def test_the_document(self):
        memory = Memory(diamond())
        memory.make("D")
        self.assertEqual(memory.move(8, "D", "A"), 48)
        self.assertEqual((memory.cast(48, "A", "C"), memory.cast(24, "C", "B")), (24, 8))
        self.assertEqual(memory.owner_at(16), (0, "field", "B", "b"))
        self.assertEqual(memory.owner_at(17), (0, "gap", "", ""))

    def test_a_place_behind_a_way(self):
        library = Library([own("P", "", "p4"), own("Q", "P", "q8"), own("R", "+Q", "r1"), own("S", "R", "s8")])
        memory = Memory(library)
        place = memory.make("S")
        layout = Layout(library)
        self.assertEqual(layout.reach("S", "P"), ("way", -3, 0))
        at = dict(layout.places("S"))
        self.assertEqual(memory.move(place, "R", "P"), place + at["P"])
        self.assertEqual(memory.move(place, "S", "Q"), place + at["Q"])
        self.assertEqual(memory.cast(place, "R", "S"), place)

    def test_errors_of_move(self):
        for name in wrong_names():
            self.assertEqual(raised(self.memory.move, 5, name, "Z"), ("NoClass", name))
            self.assertEqual(raised(self.memory.move, 5, "D", name), ("NoClass", name))
        self.assertEqual(raised(self.memory.move, 0, "A", "B"), ("NoClass", "B"))
        self.assertEqual(raised(self.memory.move, 24, "B", "C"), ("NoClass", "C"))
        for place in [8, 25, 40, 64, -24, 1] + NO_PLACES:
            self.assertEqual(raised(self.memory.move, place, "B", "A"), ("NoReference", place))

    def test_cast_down_up_and_across(self):
        starts = {"A": 64, "B": 24, "C": 40, "D": 24}
        for name, start in starts.items():
            for other, wanted in starts.items():
                self.assertEqual(self.memory.cast(start, name, other), wanted)
                self.assertEqual(self.memory.cast(0, name, other), 0)
        self.assertEqual([self.memory.cast(8, "A", other) for other in "ABCD"], [8, 0, 0, 0])

    def test_cast_to_a_flat_part_and_to_a_stranger(self):
        memory = Memory(Library([own("F", "", "x4"), own("O", "F", "", ["f"]), own("Z"), own("N", "O")]))
        place = memory.make("N")
        self.assertEqual([memory.cast(place, "O", other) for other in ("F", "O", "Z", "N")], [16, 8, 0, 8])
        self.assertEqual(raised(memory.cast, 16, "F", "O"), ("NoClass", "F"))

    def test_errors_of_cast(self):
        library = Library([own("F", "", "x4"), own("O", "F", "", ["f"])])
        memory = Memory(library)
        memory.make("O")
        for name in wrong_names() + ["F"]:
            self.assertEqual(raised(memory.cast, 5, name, "Q"), ("NoClass", name))
        for name in wrong_names():
            self.assertEqual(raised(memory.cast, 5, "O", name), ("NoClass", name))
        for place in [5, 16, 9, -8] + NO_PLACES:
            self.assertEqual(raised(memory.cast, place, "O", "F"), ("NoReference", place))
        self.assertEqual(memory.cast(place=8, name="O", other="F"), 16)


class Fields(unittest.TestCase):
    def setUp(self):
        self.memory = Memory(diamond())
        self.memory.make("D")

    def test_get_and_put_through_each_reference(self):
        memory = self.memory
        rows = [("D", "D", "d", 8, -5), ("D", "B", "b", 8, 100), ("D", "C", "c", 8, 1 << 40), ("D", "A", "a", 8, 9),
                ("B", "A", "a", 8, 10), ("C", "A", "a", 24, 11), ("A", "A", "a", 48, 12), ("C", "C", "c", 24, -1)]
        for name, owner, field, place, number in rows:
            memory.put(place, name, owner, field, number)
            self.assertEqual(memory.get(place, name, owner, field), number)
        self.assertEqual([memory.get(8, "D", "A", "a"), memory.get(8, "D", "C", "c"), memory.get(8, "B", "B", "b")],
                         [12, -1, 100])
        self.assertEqual((memory.load(56, 4), memory.load(32, 8), memory.load(16, 1)), (12, -1, 100))

    def test_numbers_of_any_size(self):
        memory = Memory(Library([own("N", "", "a1 b2 c4 d8")]))
        memory.make("N")
        for field, size in (("a", 1), ("b", 2), ("c", 4), ("d", 8)):
            for number in (0, 1, -1, 127, 128, 255, 256, -129, 1 << 31, (1 << 63) - 1, 1 << 63, 1 << 64, -(1 << 63),
                           -(1 << 63) - 1, (1 << 70) + 5, 32768, 65535):
                self.assertIsNone(memory.put(8, "N", "N", field, number))
                low = number % (1 << 8 * size)
                wanted = low - (1 << 8 * size) if low >= 1 << 8 * size - 1 else low
                self.assertEqual(memory.get(place=8, name="N", owner="N", field=field), wanted)
        memory.put(8, "N", "N", "a", -1)
        memory.put(8, "N", "N", "d", 0)
        self.assertEqual([memory.get(8, "N", "N", field) for field in "abcd"], [-1, -1, 65535, 0])

    def test_a_put_touches_only_its_bytes(self):
        memory = Memory(Library([own("N", "", "a1 b1 c1 d1 e4")]))
        memory.make("N")
        for field in "abcde":
            memory.put(8, "N", "N", field, 0x44434241)
        memory.put(8, "N", "N", "b", -1)
        self.assertEqual([memory.get(8, "N", "N", field) for field in "abcde"], [65, -1, 65, 65, 0x44434241])

    def test_references(self):
        node = Class("Node", (), (Field("next", "Node"), Field("a", "A")))
        memory = Memory(Library([own("A", "", "a4", ["f"]), own("B", "A", "b1"), own("C", "+A"), node]))
        places = {name: memory.make(name) for name in ("Node", "A", "B", "C")}
        part = memory.move(places["C"], "C", "A")
        for place in (0, places["A"], places["B"], part):
            memory.put(places["Node"], "Node", "Node", "a", place)
            self.assertEqual(memory.get(places["Node"], "Node", "Node", "a"), place)
        memory.put(places["Node"], "Node", "Node", "next", places["Node"])
        for wrong in [places["C"], places["Node"], 1, -8, places["A"] + 1, places["A"] + (1 << 64)] + NO_PLACES:
            call = (memory.put, places["Node"], "Node", "Node", "a", wrong)
            self.assertEqual(raised(*call), ("NoReference", wrong))
        self.assertEqual(memory.get(places["Node"], "Node", "Node", "a"), part)

    def test_errors_in_their_order(self):
        memory = self.memory
        for call in ((memory.get,), (memory.put,)):
            more = [1 << 80] if call[0] == memory.put else []
            for name in wrong_names():
                self.assertEqual(raised(*call, 5, name, "Q", "q", *more), ("NoClass", name))
                self.assertEqual(raised(*call, 5, "D", name, "q", *more), ("NoClass", name))
                if not isinstance(name, str):
                    self.assertEqual(raised(*call, 5, "D", "A", name, *more), ("NoMember", name))
            self.assertEqual(raised(*call, 5, "A", "D", "d", *more), ("NoClass", "D"))
            self.assertEqual(raised(*call, 5, "D", "A", "d", *more), ("NoMember", "d"))
            self.assertEqual(raised(*call, 5, "D", "A", "f", *more), ("NoMember", "f"))
            for place in [0, 5, 24, 48, -8] + NO_PLACES:
                self.assertEqual(raised(*call, place, "D", "A", "a", *more), ("NoReference", place))

    def test_the_holder_is_looked_at_ahead_of_the_number(self):
        memory = Memory(Library([Class("N", (), (Field("n", "N"),))]))
        memory.make("N")
        self.assertEqual(raised(memory.put, 0, "N", "N", "n", 5), ("NoReference", 0))
        self.assertEqual(raised(memory.put, 8, "N", "N", "n", 5), ("NoReference", 5))


class Owners(unittest.TestCase):
    def test_the_diamond(self):
        pointer, gap = [("pointer", "D", "")] * 8, [("gap", "", "")]
        wanted = (pointer + [("field", "B", "b")] + gap * 7 + [("pointer", "C", "")] * 8 + [("field", "C", "c")] * 8
                  + [("field", "D", "d")] * 2 + gap * 6 + [("pointer", "A", "")] * 8 + [("field", "A",
                                                                                         "a")] * 4 + gap * 4)
        self.assertEqual(owners(diamond(), "D"), wanted)
        self.assertEqual(owners(library=diamond(), name="A"),
                         [("pointer", "A", "")] * 8 + [("field", "A", "a")] * 4 + gap * 4)

    def test_bare_and_empty_classes(self):
        library = Library([own("E"), own("A", "", "a8", [bare("f")])])
        self.assertEqual(owners(library, "E"), [("gap", "", "")])
        self.assertEqual(owners(library, "A"), [("pointer", "A", "")] * 8 + [("field", "A", "a")] * 8)

    def test_no_class(self):
        for name in wrong_names():
            self.assertEqual(raised(owners, diamond(), name), ("NoClass", name))

    def test_owner_at_for_each_byte(self):
        memory = Memory(diamond())
        wanted = [(-1, "gap", "", "")] * 8
        for number, name in enumerate(["A", "B", "D", "C", "A"]):
            place = memory.make(name)
            wanted += [(-1, "gap", "", "")] * (place - len(wanted))
            wanted += [(number, *owner) for owner in owners(diamond(), name)]
        self.assertEqual([memory.owner_at(place) for place in range(memory.end())], wanted)

    def test_between_pieces(self):
        memory = Memory(Library([own("S", "", "a2 b1")]))
        memory.make("S")
        memory.make("S")
        self.assertEqual([memory.owner_at(place)[0] for place in range(8, 20)], [0] * 4 + [-1] * 4 + [1] * 4)
        self.assertEqual(memory.owner_at(place=12), (-1, "gap", "", ""))
        self.assertEqual(memory.owner_at(11), (0, "gap", "", ""))

    def test_no_place(self):
        memory = Memory(Library([own("S", "", "a2 b1")]))
        self.assertEqual(memory.owner_at(0), (-1, "gap", "", ""))
        self.assertEqual(raised(memory.owner_at, 8), ("NoPlace", 8))
        memory.make("S")
        for place in [-1, 12, 13, 1 << 70] + NO_PLACES:
            self.assertEqual(raised(memory.owner_at, place), ("NoPlace", place))


if __name__ == "__main__":
    unittest.main()
