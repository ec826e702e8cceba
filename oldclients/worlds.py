"""The classes of a library together with those of a client, as bodies see them (points 12, 26, 28 and 29)."""

from oldclients.families import found_in, is_bare_class


class World:
    """All classes that bodies can use, and the routines; it answers as a Library does, for each of the classes.

    inside tells whether the bodies are those of the library: these may name what is hidden, and make what is lent.
    """

    def __init__(self, library, family, inside):
        self.library = library
        self.family = family
        self.inside = inside
        self._routines = {routine.name: routine for routine in library.routines()}

    def has(self, name):
        """Tell whether a value is the name of a class."""
        return isinstance(name, str) and name in self.family.classes

    def is_clients(self, name):
        """Tell whether a class belongs to the client."""
        return name in self.family.overs

    def names(self):
        """Return the list of the names of the classes."""
        return list(self.family.classes)

    def item(self, name):
        """Return the Class with a name."""
        return self.family.classes[name]

    def line(self, name):
        """Return the list of the ancestors of a class, and the class itself."""
        return self.family.line(name)

    def derives(self, name, other):
        """Tell whether a reference to a class is one to another class, too: the same one, or an ancestor."""
        return other in self.family.line(name)

    def walk(self, name):
        """Return the list of the shared ancestors of a class, in the order of the walk."""
        return list(self.family.walks[name])

    def introducers(self, name):
        """Return the list of the pairs (class, method) that a class and its ancestors introduced."""
        return list(self.family.calls[name])

    def last_override(self, name, introducer, method):
        """Return the name of the class of the last override of a method in a class, None if it is missing."""
        return self.family.lasts[name][introducer, method]

    def is_open(self, name):
        """Tell whether a class has a table."""
        return self.family.has_table(name)

    def can_make(self, name):
        """Tell whether bodies can make objects of a class."""
        if is_bare_class(self.family, name):
            return False
        return self.inside or self.is_clients(name) or not self.item(name).lent

    def found(self, name, member):
        """Return the thing that a value means as a member of a class, None if there is none."""
        if not isinstance(member, str):
            return None
        return found_in(self.family, name, member, self.inside)

    def routine(self, name):
        """Return the routine with a name, None if a value is not one."""
        return self._routines.get(name) if isinstance(name, str) else None

    def field(self, owner, name):
        """Return the field with a name that a class declares."""
        return [field for field in self.item(owner).fields if field.name == name][0]

    def method(self, owner, name):
        """Return the method with a name that a class declares."""
        return self.family.own[owner][name]


def library_world(library):
    """Return the world of the bodies of a library."""
    return World(library, library.copied_family(), True)


def later_world(world, library):
    """Return the world of the same client with another version of its library, which lacks nothing that it needs."""
    family = library.copied_family()
    old = world.family
    for name in old.overs:
        family.take_bases(old.classes[name])
        family.overs[name] = old.overs[name]
        family.take_methods(old.classes[name], old.news[name])
    return World(library, family, False)
