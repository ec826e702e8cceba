"""What several tests need: short ways to declare things, the diamond, and values of wrong kinds."""

from oldclients.clients import Client, Resolved
from oldclients.declared import Body, Class, Field, Method, Routine
from oldclients.errors import OldError
from oldclients.libraries import Library

ERROR_FIELDS = {
    "NoLibrary": ("number", "part", "index"), "NoClass": ("name",), "NoMember": ("name",), "NoTables": ("index",),
    "NoFields": ("index",), "NoRoom": ("size",), "NoBody": ("where", "at"),
    "NoClient": ("number", "part", "index"), "Lacks": ("need",), "NoText": ("at",), "NoVersions": ("index",),
    "NoVersion": ("number",), "NoPlace": ("place",), "NoReference": ("place",), "NoNeed": ("need",),
    "NoNumber": ("number",), "NoPace": ("pace",),
}


class Echo:
    """An object that is equal to everything, and cannot be hashed."""

    def __eq__(self, other):
        return True

    __hash__ = None


class Grump:
    """An object that can be neither compared nor hashed nor tested."""

    def __eq__(self, other):
        raise RuntimeError("compared")

    def __bool__(self):
        raise RuntimeError("tested")

    def __hash__(self):
        raise RuntimeError("hashed")


class Bag:
    """An object that has attributes as the declared ones have, and is none of them."""

    def __init__(self, **values):
        self.__dict__.update(values)


def strangers():
    """Return objects that are neither texts, tuples, bools, integers nor declared objects."""
    return [None, [], ["A"], {}, {"A": 1}, set(), {"A"}, b"A", object(), Bag(name="A"), len, str, frozenset(),
            range(2), NotImplemented, ...]


def oddities():
    """Return objects that answer oddly if they are looked up or compared before their kind is looked at."""
    return [Echo(), Grump()]


def wrong_names():
    """Return objects that are the name of no class that a test declares."""
    others = ["", "a", "Z", "A ", " A", "AA", "a" * 13, "A\n", 0, 1, -1, True, False, (), ("A",), ("A", "plain"),
              Class("A"), Field("a", "int1"), Library([])]
    return strangers() + oddities() + others


def opened(name, kind="open", params=(), result=None, shown=True, steps=()):
    """Return an open method, or one of another kind that has a body."""
    return Method(name, kind, params, result, Body((), steps), shown)


def plain(name, params=(), result=None, shown=True):
    """Return a plain method."""
    return opened(name, "plain", params, result, shown)


def bare(name, params=(), result=None, shown=True):
    """Return a bare method."""
    return Method(name, "bare", params, result, None, shown)


def own(name, bases="", fields="", methods=(), **marks):
    """Return a class from short texts: bases as "A +B" (+ is shared), fields as "a4 b1"."""
    pairs = tuple((base.lstrip("+"), "shared" if base[0] == "+" else "plain") for base in bases.split())
    rows = tuple(Field(field[:-1], "int" + field[-1]) for field in fields.split())
    named = tuple(opened(method) if isinstance(method, str) else method for method in methods)
    return Class(name, pairs, rows, named, **marks)


def diamond_classes():
    """Return the classes of the diamond of the document."""
    return [own("A", "", "a4", ["f"]), own("B", "+A", "b1", ["f"]), own("C", "+A", "c8", ["g"]),
            own("D", "B C", "d2", ["g"])]


def diamond():
    """Return the library of the diamond."""
    return Library(diamond_classes())


def routine(name="r", params=(), result=None, body=None):
    """Return a routine with a body."""
    return Routine(name, params, result, Body() if body is None else body)


def fields_of(error):
    """Return the class name of an error and its fields."""
    kind = type(error).__name__
    return (kind,) + tuple(getattr(error, field) for field in ERROR_FIELDS[kind])


def raised(call, *args, **named):
    """Return what a call raises, as fields_of gives it; None if it raises nothing."""
    try:
        call(*args, **named)
    except OldError as error:
        return fields_of(error)
    return None


def refused(classes, *more):
    """Return (number, part, index) of what Library raises, or None."""
    error = raised(Library, classes, *more)
    assert error is None or error[0] == "NoLibrary", error
    return error and error[1:]


def base_library():
    """Return the library `lib` of the document."""
    n_of = Method("f", "open", (), "int4", Body((("i", "int4"),), (("get", "i", "this", "n"), ("return", "i"))))
    base = Class("Base", (), (Field("n", "int4", 5),), (n_of,))
    return Library([base, Class("Leaf", (("Base", "plain"),), (Field("m", "int1"),))])


MINE_STEPS = (("new", "x", "mine"), ("call", "i", "x", "f", ()), ("say", "i"))


def mine_client():
    """Return the client of the document, ahead of being resolved."""
    seven = Method("f", "open", (), "int4", Body((), (("return", 7),)))
    mine = Class("mine", (("Leaf", "plain"),), (Field("k", "int2"),), (seven,))
    return Client([mine], (("x", "Base"), ("i", "int4")), MINE_STEPS)


def mine_resolved():
    """Return the resolved client `cl` of the document."""
    return Resolved(mine_client(), base_library())


def doing(name, steps, variables=(), params=(), result=None, kind="open", shown=True):
    """Return a method with a body of statements."""
    return Method(name, kind, params, result, Body(tuple(variables), tuple(steps)), shown)


def main(variables, *steps, classes=()):
    """Return a client from its main variables as "x:A i:int4", its statements and its classes."""
    pairs = tuple(tuple(pair.split(":")) for pair in variables.split())
    return Client(list(classes), pairs, tuple(steps))
