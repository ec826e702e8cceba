"""Points 28 to 33: classes of many clients, each compared with the slow words of the document."""

import random
import unittest

from oldclients.clients import Client, Resolved
from oldclients.compiler import Code, lacking, needs
from oldclients.declared import Body, Class, Field, Method
from oldclients.libraries import Library
from tests.helpers import raised
from tests.slow_clients import SlowClient
from tests.test_slow import FORMS, some_class, some_libraries, some_method


def some_client_class(chance, library, mine):
    """Return a class of a client, which may be wrong in parts, names and overrides."""
    name = f"c{len(mine)}"
    known = library + mine
    item = some_class(chance, known, chance.random() < 0.5)
    bases = tuple(chance.sample(item.bases, min(len(item.bases), chance.choice([1, 2, 3]))))
    if mine and chance.random() < 0.6:
        bases = tuple(pair for pair in bases if pair[0] != mine[-1].name)[:3] + ((mine[-1].name, "plain"),)
    methods = tuple(method for method in item.methods if method.kind != "plain" or chance.random() < 0.5)
    names = [method.name for method in methods]
    if chance.random() < 0.2:
        # a name that the library may have hidden, for a member of another kind
        other = chance.choice([row.name for owner in library for row in owner.fields + owner.methods] or ["f"])
        if other not in names:
            if chance.random() < 0.5:
                return Class(name, bases, (Field(other, chance.choice(FORMS)),), methods)
            methods += (Method(other, "plain", (), None, Body(), chance.random() < 0.5),)
    fields = tuple(Field(name + "x" + field.name[-1], field.form, 0, field.shown) for field in item.fields)
    return Class(name, bases, fields, methods)


def some_clients(seed, many):
    """Yield (library classes, client classes, wrong part or None)."""
    chance = random.Random(seed)
    for classes, wrong in some_libraries(seed, many):
        if wrong is not None or not classes:
            continue
        mine, tries = [], 0
        while len(mine) < 5 and tries < 12:
            tries += 1
            item = some_client_class(chance, classes, mine)
            part = SlowClient(classes, mine + [item]).wrong(item.name)
            if part is None:
                mine.append(item)
            else:
                yield classes, mine + [item], part
        yield classes, mine, None


class Compared(unittest.TestCase):
    def test_valid_and_invalid_ones(self):
        seen = {"parts": 0, "names": 0, "overrides": 0, None: 0}
        for classes, mine, wrong in some_clients(11, 300):
            seen[wrong] += 1
            found = raised(Resolved, Client(mine), Library(classes))
            self.assertEqual(found, None if wrong is None else ("NoClient", len(mine) - 1, wrong, -1))
        self.assertGreater(min(seen.values()), 10, seen)

    def test_what_names_mean(self):
        for classes, mine, wrong in some_clients(12, 100):
            if wrong is None:
                slow, client = SlowClient(classes, mine), Resolved(Client(mine), Library(classes))
                for member in sorted({row.name for item in classes + mine for row in item.fields + item.methods}):
                    for name in slow.classes:
                        self.assertEqual(client.found(name, member), slow.found_by_client(name, member))

    def test_needs_and_codes(self):
        overriding = 0
        for classes, mine, wrong in some_clients(13, 150):
            if wrong is None:
                slow, client = SlowClient(classes, mine), Resolved(Client(mine), Library(classes))
                self.assertEqual(needs(client), slow.class_needs())
                self.assertEqual(Code(client).classes, tuple(slow.code(name) for name in slow.mine))
                overriding += sum(need[0] == "open" for need in needs(client))
        self.assertGreater(overriding, 50)

    def test_codes_with_later_versions(self):
        chance, compared, missing, new_ones = random.Random(14), 0, 0, 0
        for classes, mine, wrong in some_clients(14, 150):
            if wrong is not None or not mine:
                continue
            first = SlowClient(classes, mine)
            for _ in range(3):
                rows = [self.changed(chance, item) if chance.random() < 0.3 else item for item in classes]
                if raised(Library, rows):
                    continue
                client, later = Resolved(Client(mine), Library(classes)), Library(rows)
                slow = SlowClient(rows, mine, first)
                if not lacking(client, later) and all(slow.has_one_parts(name) for name in slow.mine):
                    codes = Code(client, later).classes
                    self.assertEqual(codes, tuple(slow.code(name) for name in slow.mine))
                    compared += codes != Code(client).classes
                    missing += any(where[0] == "" for code in codes for table in code[3] for where, _ in table[2])
                    new_ones += any(SlowClient(rows, mine).code(name) != slow.code(name) for name in slow.mine)
        self.assertGreater(min(compared, missing, new_ones), 3, (compared, missing, new_ones))

    def changed(self, chance, item):
        """Return a class with another method or field more, or with one less."""
        methods, fields = list(item.methods), list(item.fields)
        names = [method.name for method in methods]
        word = chance.choice(["more", "more", "less", "field"])
        if word == "more":
            name = chance.choice([name for name in "fghk" if name not in names] or ["z"])
            if name != "z":
                methods.insert(chance.randrange(len(methods) + 1), some_method(chance, name))
        elif word == "less" and methods:
            methods.pop(chance.randrange(len(methods)))
        elif word == "field" and len(fields) < 8:
            fields.insert(0, Field("n" + item.name.lower(), chance.choice(FORMS), 0, chance.random() < 0.5))
        return Class(item.name, item.bases, tuple(fields), tuple(methods))


if __name__ == "__main__":
    unittest.main()
