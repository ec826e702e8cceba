"""The promise of point 4, each paragraph, for many libraries, clients, later versions and desks."""

import itertools
import random
import unittest

from oldclients.clients import Resolved
from oldclients.compiler import Code, lacking, needs
from oldclients.declared import Field
from oldclients.desks import Desk
from oldclients.errors import NoBody, NoClient, NoRoom
from oldclients.exposed import exposed, probes, unlike
from oldclients.harming import dangers
from oldclients.layouts import Layout
from oldclients.libraries import Library
from oldclients.machine import Build, run_code
from oldclients.plain import plain_run
from oldclients.room import blocks, holes, room
from oldclients.stepping import code_events, out_of_step, plain_events
from oldclients.texts import read_client, read_library, show_client, show_library
from oldclients.versions import Versions, apart, labels
from oldclients.widening import widened
from tests.chances import NUMBERS, Chance, items, later_library, replaced, some_client, some_library

SIZES = {"int1": 1, "int2": 2, "int4": 4, "int8": 8}


def up(place, by):
    """Return the next multiple from a place on."""
    return -(-place // by) * by


class Layouts(unittest.TestCase):
    def near_numbers(self, library, layout, name):
        """Return (near size, alignment, places of the plain bases) from the numbers of the bases alone."""
        item = library.item(name)
        bases = [base for base, kind in item.bases if kind == "plain"]
        primary = next((base for base in bases if library.is_open(base)), None)
        end = layout.near_size(primary) if primary else 8 if library.is_open(name) else 0
        places = {primary: 0}
        for base in bases:
            if base != primary:
                places[base] = up(end, layout.alignment(base))
                end = places[base] + layout.near_size(base)
        sizes = [SIZES.get(field.form, 8) for field in item.fields]
        for size in sizes:
            end = up(end, size) + size
        alignment = max([8 if library.is_open(name) else 1, *map(layout.alignment, bases), *sizes])
        return max(1, end), alignment, [places[base] for base in bases]

    def test_numbers_of_the_bases_are_enough(self):
        for seed in range(150):
            chance = Chance(random.Random(20000 + seed))
            library = some_library(chance, chance.one([3, 6, 9]))
            layout = Layout(library)
            for name in library.names():
                size, alignment, places = self.near_numbers(library, layout, name)
                self.assertEqual((layout.near_size(name), layout.alignment(name)), (size, alignment))
                plains = [base for base, kind in library.item(name).bases if kind == "plain"]
                self.assertEqual([dict(layout.places(name))[base] for base in plains], places)
                end = size
                for shared in library.walk(name):
                    self.assertEqual(dict(layout.places(name))[shared], up(end, 8))
                    end = up(end, 8) + layout.near_size(shared)
                self.assertEqual(layout.whole_size(name), up(end, 8 if library.walk(name) else alignment))
                for owner, place, ways, methods in layout.tables(name):
                    self.assertEqual([pair for pair, _, _ in methods], layout.entries(owner))
                    self.assertEqual([shared for shared, _ in ways], layout.ways(owner))
                    for (introducer, method), last, shift in methods:
                        self.assertEqual(last, library.last_override(name, introducer, method))
                        self.assertEqual(shift, dict(layout.places(name))[last] - place)


class Runs(unittest.TestCase):
    def test_code_does_what_its_plain_meaning_does(self):
        ends, words = {}, {}
        for seed in range(120):
            chance = Chance(random.Random(seed))
            library = some_library(chance, chance.one([2, 5, 8]))
            build = Build(library)
            for _ in range(4):
                client = some_client(chance, library)
                self.assertEqual(lacking(client, library), [])
                code = Code(client)
                most = chance.one([0, 1, 10, 100, 300, 300, 300])
                wanted = plain_events(client, most=most)
                self.assertEqual(code_events(code, build, most=most), wanted)
                self.assertIsNone(out_of_step(client, code, build, most=most))
                self.assertEqual(plain_run(client, most=most), run_code(code, build, most=most))
                self.assertEqual(plain_run(client, library, most=most), plain_run(client, most=most))
                self.assertEqual(Code(client, library), code)
                ends[wanted[-1][1]] = ends.get(wanted[-1][1], 0) + 1
                for event in wanted:
                    words[event[0]] = words.get(event[0], 0) + 1
        self.assertEqual(sorted(ends), ["deep", "done", "null", "steps"])
        self.assertEqual(sorted(words), ["call", "cast", "do", "end", "get", "new", "put", "say"])
        self.assertGreater(min(words.values()), 40, words)


class Alike(unittest.TestCase):
    def test_a_finite_list_of_numbers_decides(self):
        counts = {"alike": 0, "other": 0, "lacks": 0}
        for seed in range(150):
            chance = Chance(random.Random(1000 + seed))
            old = some_library(chance, chance.one([2, 4, 6]))
            new = later_library(chance, old, chance.one([1, 1, 2, 3]))
            pair = unlike(old, new)
            rows = dict(exposed(new))
            first = [one for one in exposed(old) if one not in exposed(new)]
            self.assertEqual(pair, first[0] if first else None)
            for need, numbers in exposed(old):
                clients = [Resolved(client, old) for client in probes(old, need)]
                self.assertTrue(1 <= len(clients) <= 2)
                differ = False
                for client in clients:
                    self.assertIn(need, needs(client))
                    self.assertEqual(lacking(client, old), [])
                    self.assertLessEqual(len(client.client.classes), 2)
                    self.assertLessEqual(len(client.client.steps), 1)
                    differ = differ or bool(lacking(client, new)) or Code(client, new) != Code(client)
                if rows.get(need) != numbers:
                    self.assertTrue(differ, (need, numbers, rows.get(need)))
                if pair is None:
                    self.assertFalse(differ)
            for _ in range(3):
                client = some_client(chance, old)
                alike = not lacking(client, new) and Code(client, new) == Code(client)
                if pair is None:
                    self.assertTrue(alike)
                    self.assertIsNone(out_of_step(client, Code(client), Build(new), most=100))
            counts["alike" if pair is None else "lacks" if pair[0] not in rows else "other"] += 1
        self.assertGreater(min(counts.values()), 10, counts)


class Harm(unittest.TestCase):
    def test_the_weaker_list(self):
        counts = {"none": 0, "some": 0, "harmed": 0}
        for seed in range(150):
            chance = Chance(random.Random(21000 + seed))
            old = some_library(chance, chance.one([2, 4, 6]))
            new = later_library(chance, old, 1)
            rows = dangers(old, new)
            counts["some" if rows else "none"] += 1
            self.assertTrue(rows == [] or unlike(old, new) is not None)
            for _ in range(3):
                client = some_client(chance, old)
                is_harmed = bool(lacking(client, new)) or out_of_step(
                    client, Code(client), Build(new), most=100) is not None
                counts["harmed"] += is_harmed
                if not rows:
                    self.assertFalse(is_harmed, seed)
        self.assertGreater(min(counts.values()), 20, counts)


class Rooms(unittest.TestCase):
    def test_largest_first_finds_room(self):
        counts = {"places": 0, "full": 0}
        for seed in range(200):
            chance = Chance(random.Random(22000 + seed))
            library = some_library(chance, chance.one([1, 3, 5]))
            for name in library.names():
                forms = [chance.one(NUMBERS) for _ in range(chance.one([1, 1, 2, 3]))]
                free = {at for begin, end in holes(library, name) for at in range(begin, end)}
                for size in sorted([SIZES[form] for form in forms], reverse=True):
                    spots = [place for place, width in blocks(library, name) if width >= size
                             for place in range(place, place + width, size)
                             if set(range(place, place + size)) <= free]
                    free = None if free is None or not spots else free - set(range(spots[0], spots[0] + size))
                    if free is None:
                        break
                word, _ = room(library, name, forms)
                self.assertEqual(word == "places", free is not None)
                counts[word] += 1
                if word == "places" and max(SIZES[form] for form in forms) <= Layout(library).alignment(name):
                    if len(library.item(name).fields) + len(forms) <= 8:
                        fields = [Field(f"fresh{at}", form, 0, False) for at, form in enumerate(forms)]
                        self.assertIsNone(unlike(library, widened(library, name, fields)))
        self.assertGreater(min(counts.values()), 50, counts)

    def test_what_is_widened_is_alike_for_clients(self):
        counts = {True: 0, False: 0}
        for seed in range(100):
            chance = Chance(random.Random(23000 + seed))
            library = some_library(chance, chance.one([1, 3]))
            name = chance.one(library.names())
            library = Library([replaced(item, closed=item.name == name, lent=item.name == name) for item in items(library)],
                              library.routines())
            try:
                found = widened(library, name, [Field("fresh", chance.one(NUMBERS), 0, False)])
            except NoRoom:
                counts[False] += 1
                continue
            counts[True] += 1
            client = some_client(chance, library)
            self.assertEqual(Code(client, found), Code(client))
            self.assertIsNone(out_of_step(client, Code(client), Build(found), most=60))
        self.assertGreater(min(counts.values()), 20, counts)


class VersionRows(unittest.TestCase):
    def test_as_many_labels_as_versions_that_are_apart(self):
        seen = set()
        for seed in range(60):
            chance = Chance(random.Random(24000 + seed))
            rows = [some_library(chance, chance.one([1, 2]))]
            for _ in range(chance.one([2, 4, 7])):
                rows.append(chance.one(rows) if chance.often(0.3) else later_library(chance, chance.one(rows), 1))
            versions = Versions(rows)
            numbers = range(len(rows))
            groups = max(len(some) for many in range(len(rows) + 1) for some in itertools.combinations(numbers, many)
                         if not any(unlike(rows[i], rows[j]) is None for i, j in itertools.combinations(some, 2)))
            self.assertEqual(len(set(labels(versions))), groups)
            self.assertEqual(len(apart(versions)), groups)
            seen.add(groups)
        self.assertGreater(len(seen), 3)


class Desks(unittest.TestCase):
    def test_a_desk_keeps_what_is_promised(self):
        counts = {"alike": 0, "again": 0, "refused": 0}
        for seed in range(60):
            chance = Chance(random.Random(25000 + seed))
            first = some_library(chance, chance.one([1, 2, 4]))
            desk, clients = Desk(read_library(show_library(first))), []
            for _ in range(3):
                clients.append(some_client(chance, first))
                desk.add(read_client(show_client(clients[-1].client)))
            for _ in range(2):
                desk.install(desk.publish(later_library(chance, first, 1)))
                library = desk.versions()[desk.installed()]
                for number, client in enumerate(clients):
                    # what is alike does what its plain meaning does
                    if desk.standing(number) == ("alike",):
                        counts["alike"] += 1
                        self.assertEqual(desk.run(number, most=80), plain_run(client, library, most=80))
                before = [desk.standing(number) for number in range(3)]
                for number in range(3):
                    try:
                        desk.again(number)
                    except (NoClient, NoBody):
                        counts["refused"] += 1
                        continue
                    counts["again"] += 1
                    self.assertEqual(desk.standing(number), ("alike",))
                    wanted = plain_run(Resolved(desk[number], library), most=80)
                    self.assertEqual(desk.run(number, most=80), wanted)
                    said, ends = desk.by_turns([number], 3, most=80)
                    self.assertEqual(([one for _, one in said], ends), (wanted[0], [wanted[1]]))
                    desk.back()
                self.assertEqual([desk.standing(number) for number in range(3)], before)
        self.assertGreater(min(counts.values()), 5, counts)


if __name__ == "__main__":
    unittest.main()
