"""A row of versions (points 60 to 63)."""

import itertools
import random
import unittest

from oldclients.clients import Client, Resolved
from oldclients.compiler import Code, lacking
from oldclients.declared import Class, Field
from oldclients.exposed import unlike
from oldclients.libraries import Library
from oldclients.versions import Versions, apart, fewest_kept, first_gap, labels, running
from tests.chances import Chance, later_library, some_client, some_library
from tests.helpers import Bag, base_library, main, oddities, raised, strangers

ROW = (Field("x", "int1"), Field("y", "int1"), Field("z", "int1"))


def place(number):
    """Return a library with a closed and lent class whose field x lies at a place."""
    hidden = tuple(Field(f"h{at}", "int1", 0, False) for at in range(number))
    return Library([Class("A", (), hidden + (ROW[0],), (), True, True)])


def having(*fields):
    """Return a library with a closed and lent class for each field, with this field."""
    return Library([Class("C" + field, (), (Field(field, "int1"),), (), True, True) for field in fields])


def placed(*numbers):
    """Return versions whose field x lies at these places."""
    return Versions([place(number) for number in numbers])


def some_versions(seed, many):
    """Yield rows of versions by chance: later versions, earlier ones again, and such that some are alike."""
    for number in range(many):
        chance = Chance(random.Random(seed + number))
        if chance.often(0.5):
            rows = [place(chance.one([0, 0, 1, 2])) if chance.often(0.5) else having(*chance.random.sample("abcd", 2))
                    for _ in range(chance.one([1, 3, 5, 7, 8]))]
        elif chance.often(0.5):
            rows = [having(*sorted(chance.random.sample("abcd", chance.one([1, 2, 3]))))
                    for _ in range(chance.one([4, 6, 8]))]
        else:
            rows = [some_library(chance, chance.one([1, 2]))]
            for _ in range(chance.one([2, 4])):
                rows.append(chance.one(rows) if chance.often(0.4) else later_library(chance, rows[-1], 1))
        yield chance, Versions(rows)


class Rows(unittest.TestCase):
    def test_libraries_and_len(self):
        libraries = [place(0), place(1), place(0)]
        for rows in (libraries, tuple(libraries)):
            versions = Versions(rows)
            self.assertEqual(versions.libraries(), libraries)
            self.assertIs(type(versions.libraries()), list)
            self.assertEqual(len(versions), 3)
        self.assertEqual(len(Versions([place(0)])), 1)
        self.assertEqual(len(Versions((place(0),) * 8)), 8)
        self.assertEqual(Versions(libraries=libraries).libraries(), libraries)

    def test_later_changes_have_no_effect(self):
        rows = [place(0), place(1)]
        versions = Versions(rows)
        rows.append(place(2))
        rows[0] = place(3)
        versions.libraries().clear()
        self.assertEqual(versions.libraries(), [place(0), place(1)])
        self.assertFalse(versions.serves(0, 1))

    def test_equality(self):
        self.assertEqual(placed(0, 1), Versions((place(0), place(1))))
        for other in (placed(1, 0), placed(0), placed(0, 1, 1), placed(0, 2)):
            self.assertNotEqual(placed(0, 1), other)
        for other in [x for x in strangers() if x is not NotImplemented] + [[place(0)], 1, Bag(libraries=[])]:
            self.assertFalse(placed(0) == other)
            self.assertTrue(placed(0) != other)

    def test_no_versions(self):
        for value in strangers() + oddities() + [place(0), 1, True, "", {0: place(0)}, (), [], [place(0)] * 9,
                                                 (None,) * 9]:
            if not isinstance(value, (list, tuple)) or len(value) not in range(1, 9):
                self.assertEqual(raised(Versions, value), ("NoVersions", -1))
        for value in strangers() + oddities() + [Class("A"), 0, True, "A", placed(0), [place(0)], Library]:
            self.assertEqual(raised(Versions, [value]), ("NoVersions", 0))
            self.assertEqual(raised(Versions, (place(0), place(1), value, None)), ("NoVersions", 2))


class Serves(unittest.TestCase):
    def test_both_directions(self):
        versions = Versions([having("a"), having("a", "b"), having("b"), place(0)])
        found = [[versions.serves(old, new) for new in range(4)] for old in range(4)]
        self.assertEqual(found, [[True, True, False, False], [False, True, False, False],
                                 [False, True, True, False], [False, False, False, True]])
        self.assertTrue(versions.serves(new=1, old=0))
        self.assertFalse(versions.serves(new=0, old=1))

    def test_no_version(self):
        versions = placed(0, 1)
        for number in strangers() + oddities() + [True, False, -1, 2, 3, "0", [0], (0,), {0: 0}, place(0)]:
            self.assertEqual(raised(versions.serves, number, 0)[0], "NoVersion")
            self.assertEqual(raised(versions.serves, 0, number)[0], "NoVersion")
        self.assertEqual(raised(versions.serves, True, 5), ("NoVersion", True))
        self.assertEqual(raised(versions.serves, 1, 2), ("NoVersion", 2))
        self.assertEqual(raised(versions.serves, 2, -1), ("NoVersion", 2))
        self.assertEqual(raised(versions.serves, [], {}), ("NoVersion", []))
        self.assertIs(versions.serves(1, 1), True)

    def test_the_facts(self):
        seen = 0
        for _, versions in some_versions(1, 60):
            many, libraries = range(len(versions)), versions.libraries()
            for i, j in itertools.product(many, many):
                self.assertIs(versions.serves(i, j), unlike(libraries[i], libraries[j]) is None)
            self.assertTrue(all(versions.serves(i, i) for i in many))
            for i, j, k in itertools.product(many, many, many):
                if versions.serves(i, j) and versions.serves(j, k):
                    self.assertTrue(versions.serves(i, k))
                    seen += len({i, j, k}) == 3
        self.assertGreater(seen, 50)


def partitions(many):
    """Yield all rows of labels for so many things, numbered as they first occur."""
    rows = [[]]
    for _ in range(many):
        rows = [row + [label] for row in rows for label in range(max(row, default=-1) + 2)]
    return rows


class Labels(unittest.TestCase):
    def check(self, versions):
        found, many = labels(versions), len(versions)
        self.assertTrue(self.are_right(versions, found), found)
        least = min(max(row) + 1 for row in partitions(many) if self.are_right(versions, row))
        self.assertEqual(max(found) + 1, least)
        self.assertIn(found, partitions(many))
        return found

    def are_right(self, versions, row):
        return all(row[i] != row[j] or versions.serves(i, j)
                   for i, j in itertools.combinations(range(len(versions)), 2))

    def check_apart(self, versions):
        found = apart(versions)
        self.assertIs(type(found), list)
        self.assertEqual(found, sorted(set(found)))
        self.assertTrue(set(found) <= set(range(len(versions))))
        for i, j in itertools.combinations(found, 2):
            self.assertFalse(versions.serves(i, j))
        self.assertEqual(len(found), len(set(labels(versions))))
        return found

    def test_the_example(self):
        self.assertEqual(labels(placed(0, 1, 0)), [0, 1, 0])
        self.assertEqual(self.check_apart(placed(0, 1, 0))[-1] - self.check_apart(placed(0, 1, 0))[0], 1)

    def test_one_and_all_alike_and_none(self):
        self.assertEqual((labels(placed(0)), apart(placed(0))), ([0], [0]))
        self.assertEqual(labels(placed(*[1] * 8)), [0] * 8)
        self.assertEqual(len(self.check_apart(placed(*[1] * 8))), 1)
        self.assertEqual(labels(placed(*range(8))), list(range(8)))
        self.assertEqual(apart(placed(*range(8))), list(range(8)))

    def test_a_choice_that_comes_too_early_is_not_the_best(self):
        # a serves ab and ac; ab serves abd alone, ac abd not
        versions = Versions([having("a"), having("b"), having("a", "b"), having("a", "c"), having("a", "b", "d")])
        self.assertEqual(max(self.check(versions)) + 1, 2)
        versions = Versions([having("a"), having("b"), having("a", "b", "c"), having("a", "e")])
        self.assertEqual(self.check(versions), [0, 1, 1, 0])

    def test_earlier_ones_need_not_serve_later_ones(self):
        self.assertEqual(labels(Versions([having("a"), having("a", "b"), having("a", "b", "c")])), [0, 0, 0])
        self.assertEqual(labels(Versions([having("a", "b", "c"), having("a", "b"), having("a")])), [0, 1, 2])

    def test_many_rows(self):
        seen = set()
        for _, versions in some_versions(500, 90):
            seen.add(max(self.check(versions)))
            self.check_apart(versions)
        self.assertGreater(len(seen), 4, seen)


class FirstGap(unittest.TestCase):
    def slow(self, versions):
        rows = [(i, j, k) for i, j, k in itertools.combinations(range(len(versions)), 3)
                if versions.serves(i, k) and not versions.serves(i, j)]
        return min(rows, default=None)

    def test_some(self):
        self.assertEqual(first_gap(placed(0, 1, 0)), (0, 1, 2))
        self.assertEqual(first_gap(placed(0, 1, 2, 1, 0)), (0, 1, 4))
        self.assertEqual(first_gap(placed(3, 0, 1, 2, 1, 0)), (1, 2, 5))
        for numbers in ((0,), (0, 1), (0, 0, 0), (0, 0, 1), (0, 1, 1), (0, 1, 2, 3)):
            self.assertIsNone(first_gap(placed(*numbers)))

    def test_many_rows(self):
        seen = {True: 0, False: 0}
        for _, versions in some_versions(900, 150):
            found = first_gap(versions)
            self.assertEqual(found, self.slow(versions))
            self.assertIsInstance(found, (tuple, type(None)))
            seen[found is None] += 1
        self.assertGreater(min(seen.values()), 20)


class Kept(unittest.TestCase):
    def setUp(self):
        self.client = Client([], (("y", "A"), ("i", "int8")), (("get", "i", "y", "x"),))

    def slow_running(self, versions, resolved):
        return [number for number, library in enumerate(versions.libraries())
                if not lacking(resolved, library) and Code(resolved, library) == Code(resolved)]

    def test_running(self):
        versions = Versions([place(0), place(1), place(0), having("a")])
        self.assertEqual(running(versions, Resolved(self.client, place(0))), [0, 2])
        self.assertEqual(running(versions, Resolved(self.client, place(1))), [1])
        self.assertEqual(running(versions, Resolved(self.client, place(2))), [])
        self.assertEqual(running(versions, Resolved(Client([]), base_library())), [0, 1, 2, 3])

    def test_a_client_runs_where_others_do_not(self):
        versions = placed(0, 1)
        self.assertFalse(versions.serves(0, 1))
        self.assertEqual(running(versions, Resolved(main("y:A"), place(0))), [0, 1])

    def test_fewest_kept(self):
        versions = Versions([place(0), place(1), place(0), place(1), place(2)])
        rows = [Resolved(self.client, place(number)) for number in range(3)]
        self.assertEqual(fewest_kept(versions, []), [])
        self.assertEqual(fewest_kept(versions, ()), [])
        self.assertEqual(fewest_kept(versions, rows[:1]), [0])
        self.assertEqual(fewest_kept(versions, rows[1:2] * 3), [1])
        self.assertEqual(fewest_kept(versions, rows[:2]), [0, 1])
        self.assertEqual(fewest_kept(versions, tuple(rows)), [0, 1, 4])
        self.assertIsNone(fewest_kept(versions, rows + [Resolved(self.client, place(3))]))
        self.assertEqual(fewest_kept(versions, [Resolved(main("y:A"), place(5))]), [0])

    def test_one_that_is_enough_for_all(self):
        versions = Versions([having("a"), having("b"), having("a", "b"), having("a", "b", "c")])
        get = {field: Resolved(main(f"y:C{field} i:int1", ("get", "i", "y", field)), having(field)) for field in "abc"}
        self.assertEqual(fewest_kept(versions, [get["a"], get["b"]]), [2])
        self.assertEqual(fewest_kept(versions, [get["a"], get["b"], get["c"]]), [3])
        self.assertEqual(fewest_kept(versions, [get["b"]]), [1])

    def test_many_rows(self):
        seen = {}
        for chance, versions in some_versions(1500, 60):
            clients = []
            for _ in range(chance.one([0, 1, 2, 4])):
                library = chance.one(versions.libraries())
                names = library.names()
                clients.append(some_client(chance, library) if library.routines() else Resolved(
                    main(f"y:{names[0]} z:{names[-1]}", *[
                        ("put", "y", field.name, None if field.form[0].isupper() else 0)
                        for field in library.item(names[0]).fields if field.shown]), library))
            rows = [self.slow_running(versions, client) for client in clients]
            self.assertEqual([running(versions, client) for client in clients], rows)
            wanted = next((list(some) for many in range(len(versions) + 1)
                           for some in itertools.combinations(range(len(versions)), many)
                           if all(set(row) & set(some) for row in rows)), None)
            self.assertEqual(fewest_kept(versions, clients), wanted)
            seen[None if wanted is None else len(wanted)] = True
        self.assertGreater(len(seen), 3, seen)

    def test_by_name(self):
        versions, resolved = placed(0, 1, 0), Resolved(self.client, place(0))
        self.assertEqual(labels(versions=versions), [0, 1, 0])
        self.assertEqual(apart(versions=versions), apart(versions))
        self.assertEqual(first_gap(versions=versions), (0, 1, 2))
        self.assertEqual(running(resolved=resolved, versions=versions), [0, 2])
        clients = [resolved]
        self.assertEqual(fewest_kept(clients=clients, versions=versions), [0])
        self.assertEqual(clients, [resolved])
        labels(versions).clear()
        self.assertEqual((labels(versions), versions), ([0, 1, 0], placed(0, 1, 0)))


if __name__ == "__main__":
    unittest.main()
