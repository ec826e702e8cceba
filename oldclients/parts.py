"""Near parts, whole objects and the pieces in which they lie (points 13 to 15 and 21)."""

from oldclients.forms import form_size

POINTER_SIZE = 8
SHARED_ALIGNMENT = 8
FIRST_PIECE = 8
PIECE_ALIGNMENT = 8


class NearPart:
    """The near part of a class: all that is laid out from its beginning, place 0.

    headed: whether it begins with a table pointer; primary: the name of the primary base, or None;
    size, align: the near size and the alignment; parts: pairs (class, place); bases: those of the plain bases
    alone; fields: tuples (class, field, place); heads: pairs (class, place) of the table pointers.
    """

    def __init__(self, name, headed, primary):
        self.name = name
        self.headed = headed
        self.primary = primary
        self.size = 0
        self.align = 1
        self.parts = [(name, 0)]
        self.bases = []
        self.fields = []
        self.heads = [(name, 0)] if headed else []

    def put_base(self, base, place):
        """Put the near part of a plain base at a place."""
        self.bases = self.bases + [(base.name, place)]
        self.parts = self.parts + moved(base.parts, place)
        self.fields = self.fields + [(owner, field, place + at) for owner, field, at in base.fields]
        # of the bases only the primary one can begin at 0, and its pointer there is that of the class
        self.heads = self.heads + [(owner, at) for owner, at in moved(base.heads, place) if at > 0]
        self.align = max(self.align, base.align)

    def put_fields(self, fields, end):
        """Put the own fields of the class behind a place, which ends the near part."""
        for field in fields:
            size = form_size(field.form)
            place = rounded_up(end, size)
            self.fields = self.fields + [(self.name, field.name, place)]
            self.align = max(self.align, size)
            end = place + size
        self.size = max(1, end)


def rounded_up(place, by):
    """Return the next multiple of a number from a place on."""
    return (place + by - 1) // by * by


def moved(pairs, by):
    """Return pairs (class, place) for a part that lies so much further on."""
    return [(name, place + by) for name, place in pairs]


def first_places(pairs):
    """Return a dict from the classes of pairs (class, place) to the first place of each.

    Only a client's class has more of one class, with a later version of the library.
    """
    return {name: place for name, place in reversed(list(pairs))}


def primary_of(bases):
    """Return the name of the first of the near parts that begins with a table pointer, or None."""
    for base in bases:
        if base.headed:
            return base.name
    return None


def base_places(bases, headed, primary):
    """Return the list of the places of the plain bases in order, and where the last one that is laid out ends."""
    end = POINTER_SIZE if headed else 0
    for base in bases:
        if base.name == primary:
            end = base.size
    places = []
    for base in bases:
        place = 0 if base.name == primary else rounded_up(end, base.align)
        places.append(place)
        end = max(end, place + base.size)
    return places, end


def near_part(item, headed, bases):
    """Return the near part of a class, from those of its plain bases in order."""
    primary = primary_of(bases)
    part = NearPart(item.name, headed, primary)
    if headed:
        part.align = POINTER_SIZE
    places, end = base_places(bases, headed, primary)
    for base, place in zip(bases, places):
        part.put_base(base, place)
    part.put_fields(item.fields, end)
    return part


def near_parts(library):
    """Return the near parts of all classes of a library, by their names."""
    parts = {}
    for name in library.names():
        item = library.item(name)
        bases = [parts[base] for base, kind in item.bases if kind == "plain"]
        parts[name] = near_part(item, library.is_open(name), bases)
    return parts


class WholeObject:
    """Where everything lies in an object: size, parts and heads as in a near part, with the shared ancestors.

    shared: pairs (class, place) of these ancestors.
    """

    def __init__(self, part, shared):
        self.shared = []
        self.parts = part.parts
        self.heads = part.heads
        end = part.size
        for ancestor in shared:
            place = rounded_up(end, SHARED_ALIGNMENT)
            self.shared = self.shared + [(ancestor.name, place)]
            self.parts = self.parts + moved(ancestor.parts, place)
            self.heads = self.heads + moved(ancestor.heads, place)
            end = place + ancestor.size
        self.size = rounded_up(end, SHARED_ALIGNMENT if shared else part.align)
