"""Objects in bytes, and references to them (points 21 to 25)."""

from oldclients.errors import NoClass, NoPlace, NoReference
from oldclients.forms import SIZES, form_size, is_integer
from oldclients.layouts import Layout
from oldclients.parts import FIRST_PIECE, PIECE_ALIGNMENT, POINTER_SIZE, rounded_up
from oldclients.tables import FIRST_WAY
from oldclients.wholes import number_at, put_number

WORD_SIZES = (1, 2, 4, 8)
GAP = ("gap", "", "")


def fields_of_object(library, layout, name):
    """Return the list of the pairs (class, field) of all fields of a whole object, each with its place, as tuples."""
    rows = []
    for owner, place in layout.places(name):
        places = layout.own_places(owner)
        rows = rows + [(owner, field, place + places[field.name]) for field in library.item(owner).fields]
    return rows


def owners_of_object(library, layout, name):
    """Return what each byte of a whole object of a class belongs to."""
    rows = [GAP] * layout.whole_size(name)
    for owner, place in layout.pointers(name):
        rows[place:place + POINTER_SIZE] = [("pointer", owner, "")] * POINTER_SIZE
    for owner, field, place in fields_of_object(library, layout, name):
        size = form_size(field.form)
        rows[place:place + size] = [("field", owner, field.name)] * size
    return rows


def owners(library, name):
    """Return the list of the tuples (word, class, member) of what the bytes of a whole object belong to."""
    return owners_of_object(library, Layout(library), name)


class Memory:
    """Bytes with the objects of a library in them; the place 0 is null."""

    def __init__(self, library):
        self._library = library
        self._layout = Layout(library)
        self._cells = [0] * FIRST_PIECE
        self._homes = [-1] * FIRST_PIECE
        self._made = []
        self._parts = {}
        self._owned = {}
        self._tables = []
        self._firsts = {}
        for name in library.names():
            self._firsts[name] = len(self._tables) + 1
            self._tables.extend([(name, table) for table in self._layout.tables(name)])

    def make(self, name):
        """Make an object of a class and return its place."""
        if name not in self._library or self._library.is_bare(name):
            raise NoClass(name)
        start = rounded_up(len(self._cells), PIECE_ALIGNMENT)
        size = self._layout.whole_size(name)
        self._homes.extend([-1] * (start - len(self._homes)) + [len(self._made)] * size)
        self._cells.extend([0] * (start + size - len(self._cells)))
        for owner, place in self._layout.places(name):
            self._parts[start + place, owner] = True
        for index, (_, place) in enumerate(self._layout.pointers(name)):
            put_number(self._cells, start + place, POINTER_SIZE, self._firsts[name] + index)
        for _, field, place in fields_of_object(self._library, self._layout, name):
            put_number(self._cells, start + place, form_size(field.form), field.start)
        if name not in self._owned:
            self._owned[name] = owners_of_object(self._library, self._layout, name)
        self._made.append((name, start))
        return start

    def end(self):
        """Return the number of bytes, up to the end of the last object."""
        return len(self._cells)

    def objects(self):
        """Return the list of the pairs (class, place) of all objects, in the order in which they were made."""
        return list(self._made)

    def load(self, place, size):
        """Return the number in some bytes."""
        if not is_integer(size) or size not in WORD_SIZES or not is_integer(place):
            raise NoPlace(place)
        if place < FIRST_PIECE or place // size * size != place or place + size > len(self._cells):
            raise NoPlace(place)
        return number_at(self._cells, place, size)

    def is_part(self, place, name):
        """Return whether a value is the place of the part of a class in an object."""
        if name not in self._library:
            raise NoClass(name)
        return is_integer(place) and (place, name) in self._parts

    def _check_reference(self, place, name):
        if not (is_integer(place) and place == 0) and not self.is_part(place, name):
            raise NoReference(place)

    def _followed(self, place, way):
        if way[0] == "place":
            return place + way[1]
        _, table = self._tables[number_at(self._cells, place, POINTER_SIZE) - 1]
        _, shift = table[2][FIRST_WAY - way[1]]
        return place + shift + way[2]

    def move(self, place, name, ancestor):
        """Return the reference to the part of an ancestor, from one to a class."""
        way = self._layout.reach(name, ancestor)
        self._check_reference(place, name)
        return 0 if place == 0 else self._followed(place, way)

    def cast(self, place, name, other):
        """Return the reference to the part of any class in the same object, 0 if it has none."""
        if name not in self._library or not self._library.is_open(name):
            raise NoClass(name)
        if other not in self._library:
            raise NoClass(other)
        self._check_reference(place, name)
        if place == 0:
            return 0
        whole, table = self._tables[number_at(self._cells, place, POINTER_SIZE) - 1]
        places = dict(self._layout.places(whole))
        return place - table[1] + places[other] if other in places else 0

    def _field_place(self, place, name, owner, field):
        way = self._layout.field_reach(name, owner, field)
        if not self.is_part(place, name):
            raise NoReference(place)
        return self._followed(place, way)

    def _form(self, owner, field):
        return [known.form for known in self._library.item(owner).fields if known.name == field][0]

    def get(self, place, name, owner, field):
        """Return what a field contains, given a reference to a class."""
        found = self._field_place(place, name, owner, field)
        return number_at(self._cells, found, form_size(self._form(owner, field)))

    def put(self, place, name, owner, field, number):
        """Set a field to an integer or a reference, given a reference to a class."""
        found = self._field_place(place, name, owner, field)
        form = self._form(owner, field)
        if form not in SIZES:
            self._check_reference(number, form)
        put_number(self._cells, found, form_size(form), number)

    def owner_at(self, place):
        """Return what a byte belongs to: (number of the object, or -1, word, class, member)."""
        if not is_integer(place) or not 0 <= place < len(self._cells):
            raise NoPlace(place)
        number = self._homes[place]
        if number < 0:
            return (number, *GAP)
        name, start = self._made[number]
        return (number, *self._owned[name][place - start])
