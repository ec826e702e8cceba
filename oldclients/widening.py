"""New hidden fields that leave all clients alike (point 53)."""

from oldclients.checking import MOST_FIELDS
from oldclients.choosing import subsets
from oldclients.declared import Class, Field
from oldclients.errors import NoFields, NoLibrary, NoRoom
from oldclients.exposed import unlike
from oldclients.filling import least_row, places_in
from oldclients.forms import form_size
from oldclients.libraries import Library
from oldclients.room import OwnRow


def with_fields(library, name, fields):
    """Return a library that has other own fields in one class."""
    classes = []
    for other in library.names():
        item = library.item(other)
        if other == name:
            item = Class(name, item.bases, tuple(fields), item.methods, item.closed, item.lent)
        classes.append(item)
    return Library(classes, library.routines())


def is_valid_with(library, name, fields):
    """Tell whether a library is valid with further own fields in one class."""
    try:
        with_fields(library, name, [*library.item(name).fields, *fields])
    except NoLibrary:
        return False
    return True


def check_fields(library, name, fields):
    """Raise NoFields if a value is no row of hidden fields that a class of a library can have, too."""
    if not isinstance(fields, (list, tuple)) or len(fields) == 0:
        raise NoFields(-1)
    if len(library.item(name).fields) + len(fields) > MOST_FIELDS:
        raise NoFields(-1)
    for index, field in enumerate(fields):
        if not isinstance(field, Field) or field.shown is not False:
            raise NoFields(index)
        if not is_valid_with(library, name, fields[:index + 1]):
            raise NoFields(index)


def least_widened(row, sizes):
    """Return the pair (end, places) for new fields of these sizes beside the old ones, which stay where they are.

    Those in the gaps ahead of old fields have their places; the others follow behind all old fields, so that
    their places only tell their order.
    """
    best = None
    for inside in subsets(len(sizes)):
        behind = [index for index in range(len(sizes)) if index not in inside]
        found = places_in(row.gaps(), [sizes[index] for index in inside])
        if found is None:
            continue
        order, end = least_row(row.end(), [sizes[index] for index in behind])
        if best is None or end < best[0]:
            places = [0] * len(sizes)
            for index, place in zip(inside, found):
                places[index] = place
            for count, at in enumerate(order):
                places[behind[at]] = row.end() + count
            best = end, places
    return best


def widened(library, name, fields):
    """Return a library with hidden new fields in one class that is alike for all clients; raise NoRoom if none is."""
    row = OwnRow(library, name)
    check_fields(library, name, fields)
    end, places = least_widened(row, [form_size(field.form) for field in fields])
    old = library.item(name).fields
    everything = [*old, *fields]
    marks = [place for place, _ in row.spans] + places
    order = sorted([(mark, index) for index, mark in enumerate(marks)])
    found = with_fields(library, name, [everything[index] for _, index in order])
    if unlike(library, found) is not None:
        raise NoRoom(end)
    return found
