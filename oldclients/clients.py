"""Clients, and clients whose names were looked up in a library (points 28 and 29)."""

from oldclients.errors import NoClass, NoMember
from oldclients.resolving import check_main, check_rows_of, client_world
from oldclients.scripts import client_scripts


class Client:
    """Classes that may derive from those of a library, and the variables and statements of a main routine."""

    def __init__(self, classes, variables=(), steps=()):
        self.classes = tuple(classes) if isinstance(classes, list) else classes
        self.variables = variables
        self.steps = steps

    def __eq__(self, other):
        return (isinstance(other, Client) and self.classes == other.classes
                and self.variables == other.variables and self.steps == other.steps)


class Resolved:
    """A client whose names were looked up in a library.

    world is what its bodies see, and scripts are these bodies, with things in the place of member names.
    """

    def __init__(self, client, library):
        self.client = client
        self.library = library
        check_rows_of(client)
        self.world = client_world(client, library)
        check_main(client, self.world)
        self.scripts = client_scripts(self.world, client)

    def __eq__(self, other):
        return isinstance(other, Resolved) and self.client == other.client and self.library == other.library

    def found(self, name, member):
        """Return the thing that a name means to the client, seen from a class, or None."""
        if not self.world.has(name):
            raise NoClass(name)
        if not isinstance(member, str):
            raise NoMember(member)
        return self.world.found(name, member)

    def statements(self, where):
        """Return the tuple of the statements of a body, with things in the place of member names."""
        for script in self.scripts:
            if is_where(where) and where == script.where:
                return script.steps
        raise NoMember(where)


def is_where(value):
    """Tell whether a value has the kind of a place of a body: a tuple of two texts."""
    return isinstance(value, tuple) and len(value) == 2 and all([isinstance(part, str) for part in value])
