"""Libraries (points 8 to 12)."""

from oldclients.checking import check_routines, check_rows, checked_family
from oldclients.errors import NoClass, NoMember
from oldclients.families import found_in, is_bare_class


class Library:
    """A valid row of classes, each behind its bases, and of routines."""

    def __init__(self, classes, routines=()):
        check_rows(classes, routines)
        self._classes = list(classes)
        self._routines = list(routines)
        self._family = checked_family(self._classes)
        check_routines(self._routines, self._family.classes)

    def __eq__(self, other):
        return isinstance(other, Library) and self._classes == other._classes and self._routines == other._routines

    def __contains__(self, name):
        return isinstance(name, str) and name in self._family.classes

    def __getitem__(self, name):
        return self.item(name)

    # without it Python would go through a library by the numbers 0, 1 and so on
    def __iter__(self):
        raise TypeError("a library cannot be gone through")

    def _known(self, name):
        if name not in self:
            raise NoClass(name)
        return name

    def copied_family(self):
        """Return the Family of the classes, a copy to which the classes of a client can be added."""
        return self._family.copied()

    def names(self):
        """Return the list of the names of the classes."""
        return list(self._family.classes)

    def routines(self):
        """Return the list of the routines."""
        return list(self._routines)

    def item(self, name):
        """Return the Class with a name."""
        return self._family.classes[self._known(name)]

    def ancestors(self, name):
        """Return the list of the ancestors of a class, in the order of the library."""
        return list(self._family.above[self._known(name)])

    def walk(self, name):
        """Return the list of the shared ancestors of a class, in the order of the walk."""
        return list(self._family.walks[self._known(name)])

    def near(self, name):
        """Return the list of the classes of the near part of a class."""
        return list(self._family.nears[self._known(name)])

    def is_open(self, name):
        """Return whether a class has a table: whether it has a shared ancestor, or a method that was introduced."""
        return self._family.has_table(self._known(name))

    def introducers(self, name):
        """Return the list of the pairs (class, method) that a class and its ancestors introduced."""
        return list(self._family.calls[self._known(name)])

    def last_override(self, name, introducer, method):
        """Return the name of the class of the last override of a method in a class."""
        own = self._known(name)
        if not isinstance(introducer, str) or introducer not in self._family.line(own):
            raise NoClass(introducer)
        if not isinstance(method, str) or method not in self._family.news[introducer]:
            raise NoMember(method)
        return self._family.lasts[own][introducer, method]

    def is_bare(self, name):
        """Return whether objects of a class cannot be made, since some last override has no body."""
        return is_bare_class(self._family, self._known(name))

    def found(self, name, member, *, hidden=False):
        """Return the thing that a name means, seen from a class, or None."""
        own = self._known(name)
        if not isinstance(member, str):
            raise NoMember(member)
        return found_in(self._family, own, member, hidden is True)
