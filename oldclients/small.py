"""Small clients: one class with at most two bases, one member beside overrides, one statement (point 56)."""

from oldclients.checking import BASE_KINDS
from oldclients.clients import Client
from oldclients.declared import Body, Class, Field, Method
from oldclients.errors import NoClient
from oldclients.exposed import main_probe, probes
from oldclients.families import named_in_library
from oldclients.needing import method_need, offered
from oldclients.resolving import client_world

MINE = "mine"


def needing_client(old, new):
    """Return a small client that needs what the new library lacks, or None."""
    offers = {offer: True for offer in offered(new)}
    for need in offered(old):
        if need not in offers:
            return probes(old, need)[0]
    return None


def calling_client(classes, name, method):
    """Return a client with these classes that calls an open method of an object of a class."""
    variables, steps = main_probe(method_need("open", name, method))
    return Client(classes, variables, steps)


def renamed_client(old, new):
    """Return a small client that names a method of a library class that is another one in the new library, or None."""
    for name in old.names():
        for owner, method in old.introducers(name):
            thing = old.found(name, method)
            if thing is not None and thing != new.found(name, method):
                declared = [one for one in old.item(owner).methods if one.name == method][0]
                return calling_client([], name, declared)
    return None


def derivable(library):
    """Return the names of the classes from which clients may derive."""
    return [name for name in library.names() if not library.item(name).closed]


def naming_client(old, new):
    """Return a small client with a member whose name clients may name in the new library alone, or None."""
    for name in derivable(old):
        for owner in [*new.ancestors(name), name]:
            item = new.item(owner)
            for member in [*item.fields, *item.methods]:
                if new.found(name, member.name) is not None and old.found(name, member.name) is None:
                    return Client([Class(MINE, ((name, "plain"),), (Field(member.name, "int1"),))])
    return None


def rows_of_bases(names):
    """Return all rows of one or two bases, of each kind and in each order."""
    ones = [(name, kind) for name in names for kind in BASE_KINDS]
    return [(one,) for one in ones] + [(one, other) for one in ones for other in ones if one[0] != other[0]]


def world_of(item, library):
    """Return the world of a client with one class, None if the class is not valid with a library."""
    try:
        return client_world(Client([item]), library)
    except NoClient:
        return None


def overriding_class(library, bases, is_made):
    """Return a class of a client with the overrides that it cannot do without, None if there is no such class.

    If it is to be made, they must give all its methods bodies. It may still be invalid otherwise.
    """
    family = library.copied_family()
    item = Class(MINE, bases)
    family.take_bases(item)
    family.overs[MINE] = []
    family.take_methods(item, [])
    known = {name: family.own[owner][name] for owner, name in named_in_library(family, MINE)}
    methods = {}
    for (_, name), last in family.lasts[MINE].items():
        if last is None or (is_made and family.own[last][name].body is None):
            if name not in known:
                return None
            methods[name] = Method(name, "open", known[name].params, known[name].result, Body())
    return Class(MINE, bases, (), tuple(list(methods.values())))


def called_client(item, before, behind):
    """Return a client whose class has a method that is another one in the new library, or None."""
    for owner, name in before.introducers(MINE):
        thing = before.found(MINE, name)
        if thing is not None and thing != behind.found(MINE, name):
            return calling_client([item], MINE, before.method(owner, name))
    return None


def derived_client(old, new, bases):
    """Return a small client, whose class has these bases, that the new library does not accept alike, or None."""
    item = overriding_class(old, bases, False)
    before = None if item is None else world_of(item, old)
    if before is None:
        return None
    behind = world_of(item, new)
    if behind is None:
        return Client([item])
    called = called_client(item, before, behind)
    return made_client(old, new, bases) if called is None else called


def made_client(old, new, bases):
    """Return a small client whose class has these bases and cannot be made with the new library, or None."""
    item = overriding_class(old, bases, True)
    before = None if item is None else world_of(item, old)
    if before is None or not before.can_make(MINE):
        return None
    behind = world_of(item, new)
    if behind is not None and behind.can_make(MINE):
        return None
    return Client([item], (("x", MINE),), (("new", "x", MINE),))


def refused_client(old, new):
    """Return a small client of a library that another one does not accept alike, None if there is none.

    Where the new library has all that clients may need, names of it mean other things only if several classes
    introduced a method, and classes become invalid by a name that is new, or by several bases.
    """
    found = needing_client(old, new)
    if found is None:
        found = renamed_client(old, new)
    if found is None:
        found = naming_client(old, new)
    if found is not None:
        return found
    for bases in rows_of_bases(derivable(old)):
        found = derived_client(old, new, bases)
        if found is not None:
            return found
    return None
