"""The shapes of tables, what is found by them, and the tables of whole objects (points 16 to 18)."""

from oldclients.forms import is_integer
from oldclients.parts import first_places

FIRST_WAY = -3


def shape_of(library, name, part, shapes):
    """Return the shape of the table of a class: its entries and its ways, which begin as those of the primary base."""
    entries, ways = [], []
    if part.primary is not None:
        entries, ways = shapes[part.primary]
    own = [pair for pair in library.introducers(name) if pair[0] == name]
    others = [shared for shared in library.walk(name) if shared not in ways]
    return entries + own, ways + others


def shapes_of(library, parts):
    """Return the shapes of the tables of all classes of a library, by their names."""
    shapes = {}
    for name in library.names():
        shapes[name] = shape_of(library, name, parts[name], shapes)
    return shapes


def reaches_of(part, ways, parts):
    """Return how each part of an object is found from that of the class itself, by the names of their classes."""
    reaches = {name: ("place", place) for name, place in first_places(part.parts).items()}
    for index, shared in enumerate(ways):
        for name, place in first_places(parts[shared].parts).items():
            reaches.setdefault(name, ("way", FIRST_WAY - index, place))
    return reaches


def tables_of(library, name, whole, shapes):
    """Return the tables of a class in the order of the pointers of its whole object.

    A last override is missing (None, with the shift 0) in classes of clients alone, with a later version.
    """
    places = first_places(whole.parts)
    tables = []
    for owner, at in whole.heads:
        entries, ways = shapes[owner]
        methods = []
        for introducer, method in entries:
            last = library.last_override(name, introducer, method)
            shift = 0 if last is None else places[last] - at
            methods.append(((introducer, method), last, shift))
        shifts = tuple([(shared, places[shared] - at) for shared in ways])
        tables.append((owner, at, shifts, tuple(methods)))
    return tables


def is_same(value, wanted):
    """Tell whether a value is what is wanted, a tuple, a text or an integer, and of the same kind throughout."""
    if isinstance(wanted, tuple):
        return (isinstance(value, tuple) and len(value) == len(wanted)
                and all([is_same(one, other) for one, other in zip(value, wanted)]))
    if isinstance(wanted, str):
        return isinstance(value, str) and value == wanted
    return is_integer(value) and value == wanted
