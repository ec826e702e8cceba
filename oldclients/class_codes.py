"""The code of classes (point 33)."""

from oldclients.forms import form_size


def entry_code(entry):
    """Return the code of a method in a table: the body that is called, and the shift; "" if there is none."""
    (_, method), last, shift = entry
    return (("" if last is None else last, method), shift)


def table_code(table):
    """Return the code of a table: its place, the numbers of its ways, and its entries."""
    _, place, ways, methods = table
    return (place, tuple([number for _, number in ways]), tuple([entry_code(entry) for entry in methods]))


def class_code(world, layout, name):
    """Return the code of a class: (name, size, kind, tables, starts, fields)."""
    places = layout.own_places(name)
    fields = [(field.name, places[field.name], form_size(field.form), field.start)
              for field in world.item(name).fields]
    tables = tuple([table_code(table) for table in layout.tables(name)])
    return (name, layout.whole_size(name), tuple(layout.places(name)), tables, layout.starts(name), tuple(fields))
