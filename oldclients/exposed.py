"""What clients have built in (points 40 to 42)."""

from oldclients.clients import Client
from oldclients.declared import Class, Field
from oldclients.errors import NoNeed
from oldclients.forms import SIZES
from oldclients.layouts import Layout
from oldclients.needing import offered
from oldclients.tables import is_same


def table_numbers(table):
    """Return what is exposed of a table: (place, ways, pairs of the class of a last override and its name)."""
    _, place, ways, methods = table
    return (place, ways, tuple([(last, pair[1]) for pair, last, _ in methods]))


def derive_numbers(layout, name):
    """Return the numbers that a client has of a class from which it derives."""
    tables = tuple([table_numbers(table) for table in layout.tables(name)])
    return (layout.near_size(name), layout.alignment(name), layout.whole_size(name), tuple(layout.places(name)), tables)


def numbers_of_need(layout, need):
    """Return the tuple of the numbers that code has for a need."""
    word, name = need[0], need[1]
    if word == "make":
        return (layout.whole_size(name),)
    if word == "reach":
        return layout.reach(name, need[2])
    if word == "field":
        return (layout.own_places(name)[need[2]],)
    if word == "open":
        return (layout.method_number(name, need[2]),)
    return derive_numbers(layout, name) if word == "derive" else ()


def exposed(library):
    """Return the ascending list of the pairs (need, numbers) of all needs that clients can have."""
    layout = Layout(library)
    return [(need, numbers_of_need(layout, need)) for need in offered(library)]


def first_unlike(pairs, others):
    """Return the first of the exposed pairs of a library that is not one of those of another one, or None."""
    known = dict(others)
    for need, numbers in pairs:
        if need not in known or known[need] != numbers:
            return need, numbers
    return None


def unlike(old, new):
    """Return the first pair that is exposed by a library and not by another one, or None."""
    return first_unlike(exposed(old), exposed(new))


def free_name(library, name):
    """Return a name that no member has that clients may name in a class."""
    number = 0
    while library.found(name, f"k{number}") is not None:
        number += 1
    return f"k{number}"


def operand_of(form):
    """Return an operand that fits any form."""
    return 0 if form in SIZES else None


def derive_probes(library, name):
    """Return the probes of a class from which clients may derive.

    The first one shows the whole size, the places and the tables, since its class has just those of the base.
    In the second one the base lies behind one byte, and a field of one byte behind the base, or the other way
    round if the base has a table: so the alignment and the near size can be seen.
    """
    field = Field(free_name(library, name), "int1")
    bases = (("byte", "plain"), (name, "plain"))
    return [Client([Class("like", ((name, "plain"),))]), Client([Class("byte"), Class("behind", bases, (field,))])]


def main_probe(need):
    """Return the variables and the statements of the main routine of a probe."""
    word, name = need[0], need[1]
    holder = ("y", name)
    if word == "class":
        return (holder,), ()
    if word == "cast":
        return (holder,), (("cast", "y", "y"),)
    if word == "make":
        return (holder,), (("new", "y", name),)
    if word == "reach":
        return (("x", need[2]), holder), (("set", "x", "y"),)
    if word == "field":
        return (holder,), (("put", "y", need[2], operand_of(need[3])),)
    if word == "routine":
        return (), (("do", None, name, tuple([operand_of(form) for form in need[2]])),)
    return (holder,), (("call", None, "y", need[2], tuple([operand_of(form) for form in need[3]])),)


def probes(library, need):
    """Return small clients of a library that have a need and show all its numbers; raise NoNeed if it is none."""
    if not any([is_same(need, known) for known in offered(library)]):
        raise NoNeed(need)
    if need[0] == "derive":
        return derive_probes(library, need[1])
    variables, steps = main_probe(need)
    return [Client([], variables, steps)]
