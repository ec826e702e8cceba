"""A desk with versions and clients (points 75 to 78)."""

import random
import unittest

from oldclients.clients import Client, Resolved
from oldclients.compiler import Code, lacking
from oldclients.declared import Body, Field, Routine
from oldclients.desks import Desk
from oldclients.errors import NoBody, NoClient
from oldclients.libraries import Library
from oldclients.machine import Build, run_code
from tests.chances import Chance, later_library, replaced, some_client, some_library
from tests.helpers import Bag, base_library, doing, main, mine_client, oddities, opened, own, raised, strangers

ODD_NUMBERS = [True, False, -1, "0", "", [0], (0,), {0: 0}, [], ()]


def later():
    """Return the later library of the document: Base has a further hidden field w behind n."""
    base = base_library().item("Base")
    return Library([replaced(base, fields=base.fields + (Field("w", "int8", 0, False),)), base_library().item("Leaf")])


def bad():
    """Return a library with an invalid body."""
    return Library([own("Low", "", "", [doing("g", [("say", 1), ("say", None)])])])


def saying(*numbers):
    """Return a client that says some numbers."""
    return Client([], (), tuple(("say", number) for number in numbers))


def numbers():
    """Return objects that are no number of a client or version."""
    return strangers() + oddities() + ODD_NUMBERS


class Making(unittest.TestCase):
    def test_a_new_desk(self):
        desk = Desk(base_library())
        self.assertEqual((desk.versions(), desk.installed(), desk.clients(), len(desk), desk.out()),
                         ([base_library()], 0, [], 0, []))
        self.assertFalse(desk.back())
        self.assertEqual(Desk(library=base_library()), desk)

    def test_always_true_and_not_gone_through(self):
        desk = Desk(base_library())
        self.assertIs(bool(desk), True)
        desk.add(saying(1))
        self.assertIs(bool(desk), True)
        for call in (iter, list, lambda one: [x for x in one], enumerate):
            with self.assertRaises(TypeError):
                call(desk)

    def test_no_body(self):
        self.assertEqual(raised(Desk, bad()), ("NoBody", ("Low", "g"), 1))
        desk = Desk(base_library())
        self.assertEqual(raised(desk.publish, bad()), ("NoBody", ("Low", "g"), 1))
        self.assertEqual((desk.versions(), desk.back()), ([base_library()], False))
        self.assertEqual(raised(Build, bad()), raised(Desk, bad()))

    def test_the_example(self):
        desk = Desk(base_library())
        self.assertEqual([desk.add(mine_client()), desk.publish(later()), desk.install(1)], [0, 1, [0]])
        self.assertEqual(desk.standing(0), ("other",))


class Versions(unittest.TestCase):
    def test_publish_and_install(self):
        desk = Desk(base_library())
        self.assertEqual([desk.publish(later()), desk.publish(library=base_library())], [1, 2])
        self.assertEqual((desk.versions(), desk.installed()), ([base_library(), later(), base_library()], 0))
        self.assertEqual(desk.install(2), [])
        self.assertEqual(desk.installed(), 2)
        self.assertEqual(desk.install(number=1), [])
        self.assertEqual(desk.install(1), [])
        self.assertEqual(desk.installed(), 1)

    def test_install_tells_what_is_out(self):
        desk = Desk(base_library())
        for client in (saying(1), mine_client(), main("", classes=[own("u", "Base")]), mine_client()):
            desk.add(client)
        desk.publish(later())
        self.assertEqual(desk.install(1), [1, 2, 3])
        self.assertEqual(desk.out(), [1, 2, 3])
        self.assertEqual(desk.install(0), [])

    def test_no_version(self):
        desk = Desk(base_library())
        desk.publish(later())
        for number in numbers() + [2, 7]:
            self.assertEqual(raised(desk.install, number)[0], "NoVersion")
        self.assertEqual(raised(desk.install, True), ("NoVersion", True))
        self.assertEqual(raised(desk.install, 2), ("NoVersion", 2))
        self.assertEqual(desk.installed(), 0)

    def test_changed_lists_change_nothing(self):
        desk = Desk(base_library())
        desk.publish(later())
        desk.add(mine_client())
        desk.versions().clear()
        desk.clients().clear()
        desk.install(1).clear()
        desk.out().append(3)
        self.assertEqual((len(desk.versions()), len(desk.clients()), desk.out()), (2, 1, [0]))


class Clients(unittest.TestCase):
    def setUp(self):
        self.desk = Desk(base_library())
        self.desk.publish(later())

    def test_add(self):
        self.assertEqual(self.desk.add(mine_client()), 0)
        self.assertEqual(self.desk.add(client=saying(1)), 1)
        self.desk.install(1)
        self.assertEqual(self.desk.add(mine_client()), 2)
        self.assertEqual(self.desk.clients(), [(mine_client(), 0), (saying(1), 0), (mine_client(), 1)])
        self.assertEqual((len(self.desk), self.desk[0], self.desk[1]), (3, mine_client(), saying(1)))
        self.assertIsInstance(self.desk[0], Client)

    def test_add_raises_as_resolved(self):
        for client in (main("", classes=[own("u", "No")]), main("x:No"), main("", ("say", None)), Client(3),
                       main("x:Base", ("get", "x", "x", "no"))):
            wanted = raised(Resolved, client, base_library())
            self.assertIsNotNone(wanted)
            self.assertEqual(raised(self.desk.add, client), wanted)
        self.assertEqual(len(self.desk), 0)

    def test_in(self):
        self.desk.add(mine_client())
        self.assertIn(mine_client(), self.desk)
        self.assertNotIn(saying(1), self.desk)
        self.desk.add(saying(2))
        self.assertTrue(mine_client() in self.desk and saying(2) in self.desk and saying(1) not in self.desk)
        for value in strangers() + oddities() + [0, 1, True, Resolved(mine_client(), base_library()), (mine_client(), 0),
                                                 Bag(classes=(), variables=(), steps=())]:
            self.assertFalse(value in self.desk)

    def test_again(self):
        self.desk.add(mine_client())
        self.desk.add(saying(1))
        self.assertIs(self.desk.again(0), True)
        self.desk.install(1)
        self.assertIs(self.desk.again(1), True)
        self.assertIs(self.desk.again(number=0), False)
        self.assertIs(self.desk.again(0), True)
        self.assertEqual(self.desk.clients(), [(mine_client(), 1), (saying(1), 1)])
        self.assertEqual(self.desk.out(), [])
        self.desk.install(0)
        self.assertEqual(self.desk.out(), [0])
        self.assertEqual(self.desk.clients(), [(mine_client(), 1), (saying(1), 1)])

    def test_again_raises_as_resolved(self):
        self.desk.add(main("", classes=[own("u", "Leaf", "k4")]))
        self.desk.add(main("x:Base", ("new", "x", "Base")))
        base = base_library().item("Base")
        self.desk.publish(Library([base, own("Leaf", "Base", "k4")]))
        self.desk.publish(Library([replaced(base, lent=True), base_library().item("Leaf")]))
        self.desk.install(2)
        self.assertEqual(raised(self.desk.again, 0), ("NoClient", 0, "names", -1))
        self.desk.install(3)
        self.assertEqual(raised(self.desk.again, 1), ("NoBody", ("", ""), 0))
        self.assertEqual([number for _, number in self.desk.clients()], [0, 0])

    def test_no_number(self):
        self.desk.add(main("x:Base", ("new", "x", "Base")))
        self.desk.publish(Library([]))
        self.desk.install(2)
        # the number is looked at ahead of what Resolved raises
        self.assertEqual(raised(self.desk.again, 0), ("NoClient", -1, "main", -1))
        for number in numbers() + [1, 2]:
            for call in (self.desk.again, self.desk.standing, self.desk.run, self.desk.__getitem__):
                self.assertEqual(raised(call, number)[0], "NoNumber")
        self.assertEqual(raised(self.desk.again, True), ("NoNumber", True))
        self.assertEqual(raised(self.desk.standing, -1), ("NoNumber", -1))
        self.assertEqual(raised(lambda: self.desk[False]), ("NoNumber", False))
        self.assertEqual(raised(self.desk.run, 1, most=3), ("NoNumber", 1))


class Standing(unittest.TestCase):
    def test_each(self):
        desk = Desk(base_library())
        steps = (("call", None, "x", "f", ()), ("get", "i", "x", "n"))
        desk.add(main("x:Base i:int4", *steps))
        desk.add(mine_client())
        desk.add(saying(1))
        self.assertEqual([desk.standing(number) for number in range(3)], [("alike",)] * 3)
        base = base_library().item("Base")
        less = Library([replaced(base, fields=(), methods=(opened("f"),)), own("Leaf", "Base", "m1")])
        desk.publish(less)
        desk.install(1)
        needs = [("field", "Base", "n", "int4"), ("open", "Base", "f", (), "int4")]
        self.assertEqual(lacking(Resolved(desk[0], base_library()), less), needs)
        self.assertEqual(desk.standing(0), ("lacks", needs[0]))
        self.assertEqual(desk.standing(1), ("lacks", needs[1]))
        self.assertEqual(desk.standing(number=2), ("alike",))
        self.assertEqual(desk.out(), [0, 1])
        desk.publish(later())
        desk.install(2)
        self.assertEqual([desk.standing(number) for number in range(3)], [("alike",), ("other",), ("alike",)])
        self.assertEqual(desk.out(), [1])

    def test_it_is_that_of_what_was_compiled_last(self):
        # with the wider library the client has its own f, and needs nothing of it any more
        one = Library([own("A", "", "", ["f"])])
        two = Library([own("A", "", "", [opened("f", shown=False)])])
        client = main("", classes=[own("u", "A", "", ["f"])])
        desk = Desk(one)
        desk.add(client)
        desk.publish(two)
        self.assertEqual(desk.install(1), [0])
        self.assertEqual(desk.standing(0), ("lacks", ("open", "A", "f", (), "")))
        self.assertFalse(desk.again(0))
        self.assertEqual(desk.standing(0), ("alike",))

    def test_by_chance(self):
        seen = {}
        for seed in range(80):
            chance = Chance(random.Random(17000 + seed))
            first = some_library(chance, chance.one([1, 3, 5]))
            desk = Desk(first)
            clients = [some_client(chance, first) for _ in range(3)]
            for client in clients:
                desk.add(client.client)
            libraries = [first]
            for _ in range(2):
                libraries.append(later_library(chance, first, 1))
                desk.publish(libraries[-1])
            for number in chance.random.sample(range(3), 3):
                out = desk.install(number)
                self.assertEqual(out, sorted(out))
                for at, client in enumerate(clients):
                    rows = lacking(client, libraries[number])
                    wanted = ("lacks", rows[0]) if rows else (
                        "alike" if Code(client, libraries[number]) == Code(client) else "other",)
                    self.assertEqual(desk.standing(at), wanted)
                    self.assertEqual(at in out, wanted != ("alike",))
                    self.assertEqual(desk.run(at, most=80), run_code(Code(client), Build(libraries[number]), most=80))
                    seen[wanted[0]] = seen.get(wanted[0], 0) + 1
        self.assertEqual(len(seen), 3)
        self.assertGreater(min(seen.values()), 20, seen)


def slow_turns(codes, build, pace, most):
    """Return what by_turns must, from runs of which each has some statements more than the one before."""
    said, ends = [], [run_code(code, build, most=most)[1] for code in codes]
    heard, turn = [0] * len(codes), 0
    while turn * pace <= most:
        turn += 1
        for position, code in enumerate(codes):
            numbers_said, _ = run_code(code, build, most=min(turn * pace, most))
            said += [(position, number) for number in numbers_said[heard[position]:]]
            heard[position] = len(numbers_said)
    return said, ends


class Running(unittest.TestCase):
    def test_run_whatever_the_standing_is(self):
        desk = Desk(base_library())
        desk.add(mine_client())
        desk.add(main("x:Base i:int4", ("new", "x", "Base"), ("get", "i", "x", "n"), ("say", "i")))
        self.assertEqual([desk.run(0), desk.run(1)], [([7], "done"), ([5], "done")])
        desk.publish(Library([own("Base", "", "n4")]))
        desk.publish(Library([]))
        self.assertEqual(desk.install(1), [0, 1])
        self.assertEqual(desk.run(1), run_code(Code(Resolved(desk[1], base_library())), Build(desk.versions()[1])))
        desk.install(2)
        self.assertEqual([desk.run(0), desk.run(number=1)], [([], "fault"), ([], "fault")])

    def test_most(self):
        desk = Desk(base_library())
        desk.add(saying(*range(5)))
        desk.add(Client([], (), (("while", 1, (("say", 1),)),)))
        self.assertEqual([desk.run(0, most=many) for many in (0, 3, 5, 6)],
                         [([], "steps"), ([0, 1, 2], "steps"), ([0, 1, 2, 3, 4], "done"), ([0, 1, 2, 3, 4], "done")])
        self.assertEqual([len(desk.run(1)[0]), len(desk.run(1, most=999)[0]), desk.run(1)[1]], [500, 499, "steps"])
        self.assertEqual([len(desk.by_turns([1], 7)[0]), len(desk.by_turns([1], 7, most=999)[0])], [500, 499])
        desk.add(Client([], (), (("say", 1), ("while", 1, (("say", 1),)))))
        self.assertEqual([len(desk.run(2)[0]), len(desk.by_turns([2], 7)[0])], [500, 500])
        self.assertEqual([len(desk.run(2, most=1001)[0]), len(desk.by_turns([2], 7, most=1001)[0])], [501, 501])

    def test_the_example(self):
        desk = Desk(base_library())
        n = desk.add(saying(1, 2, 3))
        wanted = [(0, 1), (0, 2), (1, 1), (1, 2), (0, 3), (1, 3)]
        self.assertEqual(desk.by_turns([n, n], 2), (wanted, ["done", "done"]))
        self.assertEqual(desk.by_turns((n, n), pace=2), (wanted, ["done", "done"]))
        self.assertEqual(desk.by_turns(pace=2, numbers=[n, n], most=1000), (wanted, ["done", "done"]))

    def test_some_and_none(self):
        desk = Desk(base_library())
        for count in (1, 2, 3):
            desk.add(saying(*[count] * count))
        self.assertEqual(desk.by_turns([], 1), ([], []))
        self.assertEqual(desk.by_turns((), 5), ([], []))
        self.assertEqual(desk.by_turns([2, 0, 1], 1),
                         ([(0, 3), (1, 1), (2, 2), (0, 3), (2, 2), (0, 3)], ["done", "done", "done"]))
        self.assertEqual(desk.by_turns([2, 0, 1], 100)[0], [(0, 3), (0, 3), (0, 3), (1, 1), (2, 2), (2, 2)])

    def test_most_for_each(self):
        desk = Desk(base_library())
        desk.add(saying(1, 2, 3))
        desk.add(saying(4))
        self.assertEqual(desk.by_turns([0, 1, 0], 2, most=2),
                         ([(0, 1), (0, 2), (1, 4), (2, 1), (2, 2)], ["steps", "done", "steps"]))
        self.assertEqual(desk.by_turns([0, 1], 1, most=0), ([], ["steps", "steps"]))
        self.assertEqual(desk.by_turns([0], 1, most=3), ([(0, 1), (0, 2), (0, 3)], ["done"]))

    def test_statements_are_counted_as_in_a_run(self):
        # set, test, add, say, test, add, say, test, say: jumps back do not count, each test does
        steps = (("set", "i", 2), ("while", "i", (("add", "i", "i", -1), ("say", "i"))), ("say", 9))
        desk = Desk(base_library())
        desk.add(Client([], (("i", "int1"),), steps))
        desk.add(saying(*range(10, 24)))
        for pace in range(1, 11):
            rows = [(-(-at // pace), 0, number) for at, number in ((4, 1), (7, 0), (9, 9))]
            rows += [(-(-at // pace), 1, at + 9) for at in range(1, 15)]
            wanted = [row[1:] for row in sorted(rows, key=lambda row: row[:2])]
            self.assertEqual(desk.by_turns([0, 1], pace), (wanted, ["done", "done"]))

    def test_what_belongs_to_a_call_is_no_statement(self):
        one = Routine("one", (), "int4", Body((), (("return", 1),)))
        desk = Desk(Library([], [one, Routine("none", (), None, Body())]))
        desk.add(main("i:int4", ("do", "i", "one", ()), ("say", "i"), ("do", None, "none", ()), ("say", 2)))
        desk.add(saying(*range(10, 16)))
        # do, return, say, do, say
        for pace in range(1, 7):
            rows = [(-(-at // pace), 0, number) for at, number in ((3, 1), (5, 2))]
            rows += [(-(-at // pace), 1, at + 9) for at in range(1, 7)]
            wanted = [row[1:] for row in sorted(rows, key=lambda row: row[:2])]
            self.assertEqual(desk.by_turns([0, 1], pace), (wanted, ["done", "done"]))

    def test_each_has_a_memory_of_its_own(self):
        library = Library([own("A", "", "a4")], [Routine("make", (), "A", Body((("x", "A"),), (
            ("new", "x", "A"), ("return", "x"))))])
        steps = (("do", "x", "make", ()), ("get", "i", "x", "a"), ("say", "i"), ("add", "i", "i", 1),
                 ("put", "x", "a", "i"), ("get", "i", "x", "a"), ("say", "i"))
        desk = Desk(library)
        desk.add(main("x:A i:int4", *steps))
        for pace in (1, 2, 3, 20):
            said, ends = desk.by_turns([0, 0, 0], pace)
            self.assertEqual(ends, ["done"] * 3)
            for position in range(3):
                self.assertEqual([number for at, number in said if at == position], [0, 1])

    def test_against_longer_and_longer_runs(self):
        words = set()
        for seed in range(60):
            chance = Chance(random.Random(18000 + seed))
            library = some_library(chance, chance.one([1, 3, 5]))
            desk = Desk(library)
            for _ in range(3):
                desk.add(some_client(chance, library).client)
            build = Build(library)
            if chance.often(0.4):
                other = later_library(chance, library, 2)
                build = Build(other)
                desk.publish(other)
                desk.install(1)
            row = [chance.one([0, 1, 2]) for _ in range(chance.one([1, 2, 3, 4]))]
            pace, most = chance.one([1, 2, 3, 7, 50]), chance.one([0, 5, 30, 60])
            codes = [Code(Resolved(desk[number], library)) for number in row]
            found = desk.by_turns(row, pace, most=most)
            self.assertEqual(found, slow_turns(codes, build, pace, most))
            words |= set(found[1])
        self.assertGreater(len(words), 2, words)

    def test_errors_in_their_order(self):
        desk = Desk(base_library())
        desk.add(saying(1))
        for value in strangers() + oddities() + [0, True, "0", {0: 0}, range(1)]:
            if not isinstance(value, (list, tuple)):
                self.assertEqual(raised(desk.by_turns, value, 0)[0], "NoNumber")
        rows = {0: 1}
        self.assertEqual(raised(desk.by_turns, rows, 0), ("NoNumber", rows))
        for value in numbers() + [1, 5]:
            self.assertEqual(raised(desk.by_turns, [0, value, -7], 0)[0], "NoNumber")
        self.assertEqual(raised(desk.by_turns, [0, True, 5], 0), ("NoNumber", True))
        self.assertEqual(raised(desk.by_turns, (0, 5, True), 0), ("NoNumber", 5))
        for pace in numbers() + [0, -1]:
            self.assertEqual(raised(desk.by_turns, [0], pace)[0], "NoPace")
            self.assertEqual(raised(desk.by_turns, [], pace)[0], "NoPace")
        self.assertEqual(raised(desk.by_turns, [0], True), ("NoPace", True))
        self.assertEqual(raised(desk.by_turns, [0], 0), ("NoPace", 0))

    def test_runs_are_no_changes(self):
        desk = Desk(base_library())
        desk.run(desk.add(saying(1)))
        desk.by_turns([0, 0], 1)
        row = [0, 0]
        desk.by_turns(row, 1)
        self.assertEqual(row, [0, 0])
        self.assertEqual([desk.back(), desk.back()], [True, False])


class Back(unittest.TestCase):
    def states(self, desk):
        return desk.versions(), desk.installed(), desk.clients(), desk.out()

    def test_each_change(self):
        desk = Desk(base_library())
        rows = [self.states(desk)]
        for change in (lambda: desk.publish(later()), lambda: desk.add(mine_client()), lambda: desk.install(1),
                       lambda: desk.again(0), lambda: desk.install(1), lambda: desk.again(0), lambda: desk.add(saying(1)),
                       lambda: desk.publish(base_library()), lambda: desk.install(0)):
            change()
            rows.append(self.states(desk))
        for row in reversed(rows[:-1]):
            self.assertIs(desk.back(), True)
            self.assertEqual(self.states(desk), row)
        self.assertIs(desk.back(), False)
        self.assertIs(desk.back(), False)
        self.assertEqual(self.states(desk), rows[0])
        self.assertEqual(desk, Desk(base_library()))

    def test_the_old_code_is_there_again(self):
        desk = Desk(base_library())
        desk.add(mine_client())
        desk.publish(later())
        desk.install(1)
        self.assertFalse(desk.again(0))
        self.assertEqual(desk.standing(0), ("alike",))
        desk.back()
        self.assertEqual(desk.standing(0), ("other",))
        self.assertEqual(desk.clients(), [(mine_client(), 0)])
        self.assertFalse(desk.again(0))

    def test_numbers_are_given_anew(self):
        desk = Desk(base_library())
        desk.publish(later())
        desk.back()
        self.assertEqual(raised(desk.install, 1), ("NoVersion", 1))
        self.assertEqual(desk.publish(Library([])), 1)
        desk.add(saying(1))
        desk.back()
        self.assertEqual(raised(desk.run, 0), ("NoNumber", 0))
        self.assertEqual(desk.add(saying(2)), 0)
        self.assertEqual(desk.run(0), ([2], "done"))

    def test_an_install_of_the_installed_version_is_a_change(self):
        desk = Desk(base_library())
        desk.publish(later())
        desk.install(0)
        self.assertEqual([desk.back(), len(desk.versions())], [True, 2])
        self.assertEqual([desk.back(), len(desk.versions())], [True, 1])
        self.assertFalse(desk.back())

    def test_calls_that_raise_are_none(self):
        desk = Desk(base_library())
        desk.add(mine_client())
        for call in (lambda: desk.publish(bad()), lambda: desk.install(5), lambda: desk.add(main("x:No")),
                     lambda: desk.again(7), lambda: desk.run(9), lambda: desk.by_turns(3, 1)):
            self.assertIsNotNone(raised(call))
        desk.publish(Library([]))
        desk.install(1)
        self.assertIsNotNone(raised(desk.again, 0))
        self.assertEqual([desk.back(), desk.installed(), desk.back(), len(desk.versions()), desk.back(), len(desk)],
                         [True, 0, True, 1, True, 0])
        self.assertFalse(desk.back())

    def test_other_calls_are_none(self):
        desk = Desk(base_library())
        desk.add(mine_client())
        desk.versions(), desk.installed(), desk.clients(), desk.standing(0), desk.out(), desk.run(0), desk[0], len(desk)
        self.assertTrue(mine_client() in desk and desk == desk)
        desk.by_turns([0], 1)
        self.assertEqual([desk.back(), len(desk), desk.back()], [True, 0, False])

    def test_by_chance(self):
        for seed in range(40):
            chance = Chance(random.Random(19000 + seed))
            first = some_library(chance, chance.one([1, 2, 3]))
            desk, rows = Desk(first), []
            for _ in range(25):
                before = self.states(desk)
                word = chance.one(["publish", "install", "add", "again", "back", "back"])
                if word == "back":
                    self.assertEqual(desk.back(), bool(rows))
                    if rows:
                        before = rows.pop()
                    self.assertEqual(self.states(desk), before)
                    continue
                self.change(desk, word, chance, first)
                if self.count != 0:
                    rows.append(before)

    def change(self, desk, word, chance, first):
        """Make a change, and keep in count whether it was one."""
        self.count = 1
        try:
            if word == "publish":
                desk.publish(later_library(chance, first, 1))
            elif word == "install":
                desk.install(chance.random.randrange(len(desk.versions())))
            elif word == "add":
                desk.add(some_client(chance, desk.versions()[desk.installed()]).client)
            elif len(desk):
                desk.again(chance.random.randrange(len(desk)))
            else:
                self.count = 0
        except (NoClient, NoBody):
            self.count = 0


class Equality(unittest.TestCase):
    def desk(self, *changes):
        """Return a desk behind some changes: texts, numbers to install, clients or libraries."""
        desk = Desk(base_library())
        for change in changes:
            if change == "again":
                desk.again(0)
            elif isinstance(change, int):
                desk.install(change)
            elif isinstance(change, Library):
                desk.publish(change)
            else:
                desk.add(change)
        return desk

    def test_equal_ones(self):
        self.assertEqual(Desk(base_library()), Desk(base_library()))
        self.assertEqual(self.desk(later(), saying(1)), self.desk(saying(1), later()))
        self.assertEqual(self.desk(later(), 1, 0), self.desk(later()))
        self.assertEqual(self.desk(later(), mine_client(), 1, "again"), self.desk(later(), 1, mine_client()))
        self.assertEqual(self.desk(mine_client(), "again"), self.desk(mine_client()))

    def test_what_can_be_taken_back_does_not_count(self):
        one = self.desk(later(), 1, mine_client())
        for _ in range(3):
            one.back()
        self.assertEqual(one, Desk(base_library()))
        two = self.desk(later(), 1, 0, 0, 0)
        self.assertEqual(two, self.desk(later()))

    def test_different_ones(self):
        desk = self.desk(later(), mine_client(), saying(1))
        for other in (self.desk(mine_client(), saying(1)), self.desk(later(), 1, mine_client(), saying(1), 0),
                      self.desk(later(), mine_client(), saying(1), 1), self.desk(later(), mine_client()),
                      self.desk(later(), saying(1), mine_client()), self.desk(later(), mine_client(), saying(2)),
                      self.desk(base_library(), mine_client(), saying(1)),
                      self.desk(later(), mine_client(), saying(1), 1, "again", 0)):
            self.assertNotEqual(desk, other)

    def test_the_versions_of_clients_count_though_codes_are_equal(self):
        two = self.desk(base_library(), 1, saying(1), 0)
        self.assertNotEqual(two, self.desk(base_library(), saying(1)))
        self.assertEqual(two, self.desk(base_library(), 1, saying(1), 0))

    def test_nothing_else_is_equal(self):
        desk = Desk(base_library())
        for other in [x for x in strangers() if x is not NotImplemented] + [base_library(), Build(base_library()), 0,
                                                                            True]:
            self.assertFalse(desk == other)
            self.assertTrue(desk != other)

    def test_later_changes_of_arguments_have_no_effect(self):
        rows = [own("u", "Base", "k2")]
        client = Client(rows)
        desk = Desk(base_library())
        desk.add(client)
        rows.clear()
        self.assertEqual(len(desk[0].classes), 1)


if __name__ == "__main__":
    unittest.main()
