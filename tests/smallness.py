"""What small clients are (point 56), and many of them by chance."""

from oldclients.clients import Client, Resolved
from oldclients.declared import Body, Class, Field, Method
from oldclients.errors import OldError
from tests.chances import FORMS, Chance


def is_small(client, library):
    """Return whether a client that is valid with a library is small."""
    overs = Slower(client, library)
    if len(client.classes) > 1 or len(client.steps) > 1:
        return False
    if client.steps and client.steps[0][0] in ("if", "while") and any(client.steps[0][2:]):
        return False
    return all(len(item.bases) <= 2 and overs.members(item) <= 1
               and not any(method.body is not None and method.body.steps for method in item.methods)
               for item in client.classes)


class Slower:
    """What the one class of a small client overrides, by the words of point 28."""

    def __init__(self, client, library):
        self.library = library

    def is_override(self, item, method):
        """Return whether a method overrides one of the library that clients may name."""
        lines = [name for base, _ in item.bases for name in [*self.library.ancestors(base), base]]
        return method.kind != "plain" and any(
            self.library.found(name, method.name) is not None
            and self.library.found(name, method.name)[0] == "open" for name in lines)

    def members(self, item):
        """Return how many members a class has besides methods that override others."""
        return len(item.fields) + len([method for method in item.methods if not self.is_override(item, method)])


def some_small_client(random, old, new):
    """Return a resolved small client of a library by chance, or None; its member may have a name of the new one."""
    chance = Chance(random)
    names, classes = old.names(), []
    if chance.often(0.85):
        bases = tuple((name, chance.one(["plain", "shared"]))
                      for name in random.sample(names, min(len(names), chance.one([1, 2, 2]))))
        overs = random.sample(sorted(FORMS), chance.one([0, 0, 1, 2, 3]))
        kinds = {name: chance.one(["open", "open", "bare"]) for name in overs}
        methods = [Method(name, kinds[name], *FORMS[name], Body() if kinds[name] == "open" else None) for name in overs]
        fields = ()
        pool = [member.name for name in new.names() for member in new.item(name).fields + new.item(name).methods]
        name = chance.one(pool + ["own"])
        if chance.often(0.5) and name not in overs:
            if chance.often(0.5):
                fields = (Field(name, "int1"),)
            else:
                methods.append(Method(name, chance.one(["plain", "open"]), *FORMS.get(name, ((), None)), Body()))
        classes = [Class("u", bases, fields, tuple(methods))]
    known = {**{name: old.item(name) for name in names}, **{item.name: item for item in classes}}
    variables = tuple((f"r{at}", name) for at, name in enumerate(sorted(known)[:13])) + (("i", "int1"), ("m", "int8"))
    steps = (chance.step(dict(variables), known, old.routines(), 3),) if chance.often(0.8) else ()
    try:
        resolved = Resolved(Client(classes, variables, steps), old)
    except OldError:
        return None
    return resolved if is_small(resolved.client, old) else None
