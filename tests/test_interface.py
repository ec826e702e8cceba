"""The interface of the document: names, arguments, and where they are defined."""

import importlib
import inspect
import unittest

from tests.helpers import ERROR_FIELDS

INTERFACE = {
    "errors": {name: None for name in ["OldError", *ERROR_FIELDS]},
    "declared": {
        "Field": "(name, form, start=0, shown=True)", "Body": "(variables=(), steps=())",
        "Method": "(name, kind, params=(), result=None, body=None, shown=True)",
        "Class": "(name, bases=(), fields=(), methods=(), closed=False, lent=False)",
        "Routine": "(name, params=(), result=None, body=None)",
    },
    "libraries": {"Library": "(classes, routines=())"},
    "layouts": {"Layout": "(library)", "check_tables": "(layout, name, tables)"},
    "memory": {"owners": "(library, name)", "Memory": "(library)"},
    "bodies": {"check_bodies": "(library)"},
    "clients": {"Client": "(classes, variables=(), steps=())", "Resolved": "(client, library)"},
    "compiler": {"needs": "(resolved)", "lacking": "(resolved, library)", "Code": "(resolved, library=None)"},
    "plain": {"plain_run": "(resolved, library=None, *, most=1000)"},
    "machine": {"Build": "(library)", "run_code": "(code, build, *, most=1000)"},
    "stepping": {
        "plain_events": "(resolved, library=None, *, most=1000)", "code_events": "(code, build, *, most=1000)",
        "out_of_step": "(resolved, code, build, *, most=1000)",
    },
    "exposed": {"exposed": "(library)", "unlike": "(old, new)", "probes": "(library, need)"},
    "harming": {"dangers": "(old, new)", "dangers_for": "(resolved, new)"},
    "room": {
        "holes": "(library, name)", "blocks": "(library, name)", "least_near_size": "(library, name)",
        "least_order": "(library, name)", "room": "(library, name, forms)",
    },
    "widening": {"widened": "(library, name, fields)"},
    "anew": {
        "accepted": "(resolved, library)", "unaccepted": "(old, new)", "way_on": "(resolved, library)",
        "kind_of_change": "(old, new)",
    },
    "versions": {
        "Versions": "(libraries)", "labels": "(versions)", "apart": "(versions)", "first_gap": "(versions)",
        "running": "(versions, resolved)", "fewest_kept": "(versions, clients)",
    },
    "stacks": {
        "Upper": "(classes, routines=())", "Part": "(upper, lower)", "joined": "(lower, upper)",
        "linked": "(lower, part)", "together": "(lowers, parts)", "serving": "(lowers, parts, resolved)",
        "best_pair": "(lowers, parts, clients)",
    },
    "texts": {
        "show_library": "(library)", "show_client": "(client)", "read_library": "(text)", "read_client": "(text)",
    },
    "desks": {"Desk": "(library)"},
}
METHODS = {
    ("libraries", "Library"): {
        "names": "(self)", "routines": "(self)", "item": "(self, name)", "ancestors": "(self, name)",
        "walk": "(self, name)", "near": "(self, name)", "is_open": "(self, name)", "introducers": "(self, name)",
        "last_override": "(self, name, introducer, method)", "is_bare": "(self, name)",
        "found": "(self, name, member, *, hidden=False)",
    },
    ("layouts", "Layout"): {
        "near_size": "(self, name)", "alignment": "(self, name)", "whole_size": "(self, name)",
        "places": "(self, name)", "field_places": "(self, name)", "pointers": "(self, name)",
        "reach": "(self, name, ancestor)", "field_reach": "(self, name, owner, field)", "entries": "(self, name)",
        "ways": "(self, name)", "method_number": "(self, introducer, method)", "tables": "(self, name)",
    },
    ("memory", "Memory"): {
        "make": "(self, name)", "end": "(self)", "objects": "(self)", "load": "(self, place, size)",
        "is_part": "(self, place, name)", "move": "(self, place, name, ancestor)",
        "cast": "(self, place, name, other)", "get": "(self, place, name, owner, field)",
        "put": "(self, place, name, owner, field, number)", "owner_at": "(self, place)",
    },
    ("clients", "Resolved"): {"found": "(self, name, member)", "statements": "(self, where)"},
    ("versions", "Versions"): {"libraries": "(self)", "serves": "(self, old, new)"},
    ("stacks", "Part"): {"code": "(self)", "agrees": "(self, other)"},
    ("desks", "Desk"): {
        "publish": "(self, library)", "add": "(self, client)", "install": "(self, number)", "again": "(self, number)",
        "versions": "(self)", "clients": "(self)", "installed": "(self)", "standing": "(self, number)", "out": "(self)",
        "run": "(self, number, *, most=1000)", "by_turns": "(self, numbers, pace, *, most=1000)", "back": "(self)",
    },
}
SIGNS = {
    ("declared", "Field"): ["__eq__"], ("declared", "Body"): ["__eq__"], ("declared", "Method"): ["__eq__"],
    ("declared", "Class"): ["__eq__"], ("declared", "Routine"): ["__eq__"],
    ("libraries", "Library"): ["__eq__", "__getitem__", "__contains__"], ("layouts", "Layout"): ["__eq__"],
    ("clients", "Client"): ["__eq__"], ("clients", "Resolved"): ["__eq__"], ("compiler", "Code"): ["__eq__"],
    ("machine", "Build"): ["__eq__"], ("versions", "Versions"): ["__eq__", "__len__"], ("stacks", "Upper"): ["__eq__"],
    ("stacks", "Part"): ["__eq__"], ("desks", "Desk"): ["__eq__", "__len__", "__getitem__", "__contains__"],
}


def module(name):
    """Return a module of the package."""
    return importlib.import_module("oldclients." + name)


class Interface(unittest.TestCase):
    def test_names_and_arguments(self):
        for file, things in INTERFACE.items():
            for name, signature in things.items():
                thing = getattr(module(file), name)
                self.assertEqual(thing.__module__, "oldclients." + file)
                if signature is not None:
                    self.assertEqual(str(inspect.signature(thing)), signature, name)

    def test_methods_are_defined_in_the_class_itself(self):
        for (file, name), methods in METHODS.items():
            for method, signature in methods.items():
                found = vars(getattr(module(file), name))[method]
                self.assertEqual(str(inspect.signature(found)), signature, method)
                self.assertEqual(found.__module__, "oldclients." + file)
        for (file, name), signs in SIGNS.items():
            for sign in signs:
                self.assertIn(sign, vars(getattr(module(file), name)))


if __name__ == "__main__":
    unittest.main()
