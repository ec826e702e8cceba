"""What in a later version of a library may harm old clients (points 45 to 47)."""

from oldclients.compiler import needs
from oldclients.exposed import exposed
from oldclients.forms import form_size
from oldclients.layouts import Layout
from oldclients.memory import fields_of_object
from oldclients.parts import POINTER_SIZE, SHARED_ALIGNMENT, rounded_up


class Side:
    """The old or the new library, with its layout."""

    def __init__(self, library):
        self.library = library
        self.layout = Layout(library)

    def near_places(self, name):
        """Return the list of the pairs (class, place) of the near part of a class, in an order of their own."""
        near = self.library.near(name)
        return sorted([pair for pair in self.layout.places(name) if pair[0] in near])

    def near_pointers(self, name):
        """Return the list of the pairs (class, place) of the pointers of the near part, in an order of their own."""
        near = self.library.near(name)
        return sorted([pair for pair in self.layout.pointers(name) if pair[0] in near])

    def ends(self, name, classes):
        """Return where the fields and pointers end that these classes have in a whole object."""
        fields = fields_of_object(self.library, self.layout, name)
        ends = [place + form_size(field.form) for owner, field, place in fields if owner in classes]
        return ends + [place + POINTER_SIZE for owner, place in self.layout.pointers(name) if owner in classes]

    def near_end(self, name):
        """Return where the last field or pointer of the near part of a class ends, 0 if there is none."""
        return max(self.ends(name, self.library.near(name)), default=0)

    def whole_end(self, name):
        """Return where the last field, pointer or part of a whole object ends; a part needs one byte at least."""
        places = self.layout.places(name)
        return max(self.ends(name, [owner for owner, _ in places]) + [place + 1 for _, place in places])

    def entry_names(self, name):
        """Return the list of the names of the methods in the table of a class, by their numbers."""
        return [method for _, method in self.layout.entries(name)]

    def last_overrides(self, name):
        """Return a dict from the classes of the tables of a class to the lists of their last overrides."""
        return {table[0]: [last for _, last, _ in table[3]] for table in self.layout.tables(name)}


def is_beginning(row, other):
    """Tell whether a list is the beginning of another one, or all of it."""
    return other[:len(row)] == row


def do_overrides_differ(old, new, name):
    """Tell whether a method in a table of a class has another last override than before."""
    others = new.last_overrides(name)
    return any([last != other for owner, lasts in old.last_overrides(name).items() if owner in others
                for last, other in zip(lasts, others[owner])])


def do_parts_differ(old, new, name, starts):
    """Tell whether objects of a class consist of other parts; starts are the classes of the near parts to look at."""
    return (sorted(old.library.walk(name)) != sorted(new.library.walk(name))
            or any([old.near_places(start) != new.near_places(start) for start in starts]))


def do_pointers_differ(old, new, starts):
    """Tell whether one of some near parts has other pointers than before."""
    return any([old.near_pointers(start) != new.near_pointers(start) for start in starts])


def do_sizes_grow(old, new, name, starts):
    """Tell whether a near part does not lie any more where clients have room for it."""
    for start in starts:
        size = old.layout.near_size(start)
        # behind the near part of a shared ancestor nothing begins ahead of the next multiple
        room = size if start == name else rounded_up(size, SHARED_ALIGNMENT)
        if new.near_end(start) > room:
            return True
    return False


def do_tables_grow(old, new, name):
    """Tell whether the tables that clients have are not long enough, or have something else in them."""
    for owner, _ in old.layout.pointers(name):
        if owner in new.library:
            if not is_beginning(new.entry_names(owner), old.entry_names(owner)):
                return True
            if not is_beginning(new.layout.ways(owner), old.layout.ways(owner)):
                return True
    return False


def words_for(old, new, name):
    """Return the list of the words that tell what may harm clients whose classes derive from a class."""
    starts = [name] + [shared for shared in old.library.walk(name) if shared in new.library]
    rows = (
        ("alignment", new.layout.alignment(name) > old.layout.alignment(name)),
        ("overrides", do_overrides_differ(old, new, name)),
        ("parts", do_parts_differ(old, new, name, starts)),
        ("pointers", do_pointers_differ(old, new, starts)),
        ("size", do_sizes_grow(old, new, name, starts)),
        ("tables", do_tables_grow(old, new, name)),
    )
    return [word for word, is_told in rows if is_told]


def dangers_of(old, new, need, do_numbers_differ):
    """Return the dangers of a need that both libraries meet."""
    word, name = need[0], need[1]
    if word == "derive":
        return [(word, name, told) for told in words_for(old, new, name)]
    if word == "make":
        return [need] if new.whole_end(name) > old.layout.whole_size(name) else []
    return [need] if do_numbers_differ else []


def dangers(old, new):
    """Return the ascending list of what may harm clients of a library with a later version of it."""
    before, behind = Side(old), Side(new)
    known = dict(exposed(new))
    rows = []
    for need, numbers in exposed(old):
        if need in known:
            rows.extend(dangers_of(before, behind, need, known[need] != numbers))
        else:
            rows.append(("lacks", need))
    return sorted(rows)


def need_of(danger):
    """Return the need with which a client is concerned by a danger."""
    if danger[0] == "lacks":
        return danger[1]
    return danger[:2] if danger[0] == "derive" else danger


def dangers_for(resolved, new):
    """Return the ascending list of what may harm one client with a later version of its library."""
    own = needs(resolved)
    return [danger for danger in dangers(resolved.library, new) if need_of(danger) in own]
