"""RUNS and ALIKE of point 4, for many libraries, clients and later versions."""

import random
import unittest

from oldclients.clients import Resolved
from oldclients.compiler import Code, lacking, needs
from oldclients.exposed import exposed, probes, unlike
from oldclients.machine import Build, run_code
from oldclients.plain import plain_run
from oldclients.stepping import code_events, out_of_step, plain_events
from tests.chances import Chance, later_library, some_client, some_library


class Runs(unittest.TestCase):
    def test_code_does_what_its_plain_meaning_does(self):
        ends, words = {}, {}
        for seed in range(120):
            chance = Chance(random.Random(seed))
            library = some_library(chance, chance.one([2, 5, 8]))
            build = Build(library)
            for _ in range(4):
                client = some_client(chance, library)
                self.assertEqual(lacking(client, library), [])
                code = Code(client)
                most = chance.one([0, 1, 10, 100, 300, 300, 300])
                wanted = plain_events(client, most=most)
                self.assertEqual(code_events(code, build, most=most), wanted)
                self.assertIsNone(out_of_step(client, code, build, most=most))
                self.assertEqual(plain_run(client, most=most), run_code(code, build, most=most))
                self.assertEqual(plain_run(client, library, most=most), plain_run(client, most=most))
                self.assertEqual(Code(client, library), code)
                ends[wanted[-1][1]] = ends.get(wanted[-1][1], 0) + 1
                for event in wanted:
                    words[event[0]] = words.get(event[0], 0) + 1
        self.assertEqual(sorted(ends), ["deep", "done", "null", "steps"])
        self.assertEqual(sorted(words), ["call", "cast", "do", "end", "get", "new", "put", "say"])
        self.assertGreater(min(words.values()), 40, words)


class Alike(unittest.TestCase):
    def test_a_finite_list_of_numbers_decides(self):
        counts = {"alike": 0, "other": 0, "lacks": 0}
        for seed in range(150):
            chance = Chance(random.Random(1000 + seed))
            old = some_library(chance, chance.one([2, 4, 6]))
            new = later_library(chance, old, chance.one([1, 1, 2, 3]))
            pair = unlike(old, new)
            rows = dict(exposed(new))
            first = [one for one in exposed(old) if one not in exposed(new)]
            self.assertEqual(pair, first[0] if first else None)
            for need, numbers in exposed(old):
                clients = [Resolved(client, old) for client in probes(old, need)]
                self.assertTrue(1 <= len(clients) <= 2)
                differ = False
                for client in clients:
                    self.assertIn(need, needs(client))
                    self.assertEqual(lacking(client, old), [])
                    self.assertLessEqual(len(client.client.classes), 2)
                    self.assertLessEqual(len(client.client.steps), 1)
                    differ = differ or bool(lacking(client, new)) or Code(client, new) != Code(client)
                if rows.get(need) != numbers:
                    self.assertTrue(differ, (need, numbers, rows.get(need)))
                if pair is None:
                    self.assertFalse(differ)
            for _ in range(3):
                client = some_client(chance, old)
                alike = not lacking(client, new) and Code(client, new) == Code(client)
                if pair is None:
                    self.assertTrue(alike)
                    self.assertIsNone(out_of_step(client, Code(client), Build(new), most=100))
            counts["alike" if pair is None else "lacks" if pair[0] not in rows else "other"] += 1
        self.assertGreater(min(counts.values()), 10, counts)


if __name__ == "__main__":
    unittest.main()
