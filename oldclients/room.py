"""Free bytes in classes, and what can be put there (points 50 to 52)."""

from oldclients.errors import NoFields
from oldclients.filling import BLOCK_SIZES, blocks_of, least_row, places_in
from oldclients.forms import form_size, is_form
from oldclients.layouts import Layout
from oldclients.parts import POINTER_SIZE

MOST_FORMS = 8


class OwnRow:
    """The own fields of a class in order: their names, and their pairs (place, size).

    start is where they can begin, and limit where the near part ends.
    """

    def __init__(self, library, name):
        item = library.item(name)
        layout = Layout(library)
        bases, _ = layout.starts(name)
        ends = [place + layout.near_size(base) for base, place in bases]
        places = layout.own_places(name)
        self.start = max([POINTER_SIZE if library.is_open(name) else 0] + ends)
        self.order = [field.name for field in item.fields]
        self.spans = [(places[field.name], form_size(field.form)) for field in item.fields]
        self.limit = layout.near_size(name)

    def sizes(self):
        """Return the list of the sizes of the fields."""
        return [size for _, size in self.spans]

    def end(self):
        """Return where the last field ends."""
        place, size = self.spans[-1] if self.spans else (self.start, 0)
        return place + size

    def gaps(self):
        """Return the list of the free stretches (begin, end) ahead of the fields."""
        rows, begin = [], self.start
        for place, size in self.spans:
            if begin < place:
                rows.append((begin, place))
            begin = place + size
        return rows


def holes(library, name):
    """Return the ascending list of the longest stretches (begin, end) of free bytes of a class."""
    row = OwnRow(library, name)
    # without fields and bases the one byte of the near part is free
    rest = [(row.end(), row.limit)] if row.end() < row.limit else []
    return row.gaps() + rest


def blocks(library, name):
    """Return the ascending list of the blocks (place, size) into which the holes of a class are cut."""
    return blocks_of(holes(library, name))


def least_near_size(library, name):
    """Return the least near size that a class has over all orders of its own fields."""
    row = OwnRow(library, name)
    _, end = least_row(row.start, row.sizes())
    return max(1, end)


def least_order(library, name):
    """Return the names of the own fields of a class in an order with which it has the least near size."""
    row = OwnRow(library, name)
    order, _ = least_row(row.start, row.sizes())
    return tuple([row.order[index] for index in order])


def check_forms(library, forms):
    """Raise NoFields if a value is no row of forms of a library, or too long or empty."""
    if not isinstance(forms, (list, tuple)) or not 1 <= len(forms) <= MOST_FORMS:
        raise NoFields(-1)
    names = library.names()
    for index, form in enumerate(forms):
        if not is_form(form, names):
            raise NoFields(index)


def full_size(free, sizes):
    """Return the greatest size for which the fields that are so large need more than the blocks that are so large."""
    for size in BLOCK_SIZES:
        needed = sum([one for one in sizes if one >= size])
        if needed > sum([width for _, width in free if width >= size]):
            return size
    return None


def room(library, name, forms):
    """Return ("places", list) with places in holes for fields of some forms, ("full", size) if they do not fit."""
    free = holes(library, name)
    check_forms(library, forms)
    sizes = [form_size(form) for form in forms]
    places = places_in(free, sizes)
    return ("full", full_size(blocks_of(free), sizes)) if places is None else ("places", places)
