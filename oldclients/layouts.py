"""Layouts: all numbers and tables of a library (points 13 to 20)."""

from oldclients.errors import NoClass, NoMember, NoTables
from oldclients.parts import WholeObject, near_parts
from oldclients.tables import is_same, reaches_of, shapes_of, tables_of


def numbers_of(library, name, parts, shapes, whole):
    """Return all numbers and tables of a class, by what they are."""
    part = parts[name]
    entries, ways = shapes[name]
    return {
        "near size": part.size, "alignment": part.align, "whole size": whole.size,
        "places": whole.parts, "fields": part.fields, "pointers": whole.heads,
        "reaches": reaches_of(part, ways, parts), "entries": entries, "ways": ways,
        "tables": tables_of(library, name, whole, shapes),
    }


class Layout:
    """The places, sizes and tables of all classes of a library, or of a world (a library and a client)."""

    def __init__(self, library):
        parts = near_parts(library)
        shapes = shapes_of(library, parts)
        self._numbers = {}
        self._starts = {}
        for name in library.names():
            whole = WholeObject(parts[name], [parts[shared] for shared in library.walk(name)])
            self._numbers[name] = numbers_of(library, name, parts, shapes, whole)
            self._starts[name] = (tuple(parts[name].bases), tuple(whole.shared))

    def __eq__(self, other):
        return isinstance(other, Layout) and self._numbers == other._numbers

    def _of(self, name):
        if not isinstance(name, str) or name not in self._numbers:
            raise NoClass(name)
        return self._numbers[name]

    def near_size(self, name):
        """Return where the near part of a class ends, at least 1."""
        return self._of(name)["near size"]

    def alignment(self, name):
        """Return the number of which the places of the near part of a class are multiples."""
        return self._of(name)["alignment"]

    def whole_size(self, name):
        """Return the size of a whole object of a class."""
        return self._of(name)["whole size"]

    def places(self, name):
        """Return the list of the pairs (class, place) of all parts of a whole object."""
        return list(self._of(name)["places"])

    def starts(self, name):
        """Return the pairs (class, place) of the plain bases of a class, and those of its walk, as two tuples."""
        return self._starts[name]

    def own_places(self, name):
        """Return a dict from the names of the fields that a class declares to their places in its near part."""
        return {field: place for owner, field, place in self._of(name)["fields"] if owner == name}

    def field_places(self, name):
        """Return the list of the tuples (class, field, place) of the fields of the near part of a class."""
        return list(self._of(name)["fields"])

    def pointers(self, name):
        """Return the list of the pairs (class, place) of all table pointers of a whole object."""
        return list(self._of(name)["pointers"])

    def reach(self, name, ancestor):
        """Return how the part of an ancestor is found from that of a class: by a place, or by a way."""
        reaches = self._of(name)["reaches"]
        if not isinstance(ancestor, str) or ancestor not in reaches:
            raise NoClass(ancestor)
        return reaches[ancestor]

    def field_reach(self, name, owner, field):
        """Return how a field that an ancestor declares is found from the part of a class."""
        *way, start = self.reach(name, owner)
        own = self.own_places(owner)
        if not isinstance(field, str) or field not in own:
            raise NoMember(field)
        return (*way, start + own[field])

    def entries(self, name):
        """Return the list of the pairs (introducer, method) that the table of a class has, by their numbers."""
        return list(self._of(name)["entries"])

    def ways(self, name):
        """Return the list of the shared ancestors to which the table of a class has ways, from -3 downwards."""
        return list(self._of(name)["ways"])

    def method_number(self, introducer, method):
        """Return the number of a method in the table of the class that introduces it."""
        entries = self._of(introducer)["entries"]
        if not isinstance(method, str) or (introducer, method) not in entries:
            raise NoMember(method)
        return entries.index((introducer, method))

    def tables(self, name):
        """Return the list of the tables of a class, in the order of its pointers."""
        return list(self._of(name)["tables"])


def check_tables(layout, name, tables):
    """Raise NoTables with the index of the first table that is not that of the class, if there is one."""
    wanted = layout.tables(name)
    if not isinstance(tables, list):
        raise NoTables(-1)
    for index, table in enumerate(wanted):
        if index >= len(tables) or not is_same(tables[index], table):
            raise NoTables(index)
    if len(tables) > len(wanted):
        raise NoTables(len(wanted))
