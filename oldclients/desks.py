"""A desk with versions of a library and clients (points 75 to 78)."""

from oldclients.clients import Client, Resolved
from oldclients.compiler import Code, lacking
from oldclients.engine import Machine
from oldclients.errors import NoNumber, NoPace, NoVersion
from oldclients.forms import is_integer
from oldclients.machine import Build, run_code
from oldclients.watching import Deaf


def is_number(value, many):
    """Tell whether a value is the number of one of so many things."""
    return is_integer(value) and 0 <= value < many


class Turns:
    """A run of a client by turns; heard is how much of what it says was given back."""

    def __init__(self, machine):
        self.machine = machine
        self.heard = 0

    def next_said(self, pace):
        """Execute the next statements, and return the list of what is said."""
        self.machine.take_turn(pace)
        said = self.machine.said[self.heard:]
        self.heard += len(said)
        return said


class Desk:
    """Versions of a library, one of which is installed, and clients that were compiled with them.

    Each client is a tuple (resolved client, number of the version, code). Rows are never changed, but replaced by
    others: so what was before a change can be kept as it is.
    """

    def __init__(self, library):
        self._builds = [Build(library)]
        self._chosen = 0
        self._compiled = []
        self._past = []

    def __eq__(self, other):
        return (isinstance(other, Desk) and self._builds == other._builds and self._chosen == other._chosen
                and self._compiled == other._compiled)

    def __len__(self):
        return len(self._compiled)

    def __bool__(self):
        return True

    def __contains__(self, client):
        return isinstance(client, Client) and any([client == resolved.client for resolved, _, _ in self._compiled])

    def __getitem__(self, number):
        resolved, _, _ = self._client(number)
        return resolved.client

    # without it Python would go through a desk by the numbers 0, 1 and so on
    def __iter__(self):
        raise TypeError("a desk cannot be gone through")

    def _client(self, number):
        if not is_number(number, len(self._compiled)):
            raise NoNumber(number)
        return self._compiled[number]

    def _build(self):
        return self._builds[self._chosen]

    def _compile(self, client):
        resolved = Resolved(client, self._build().library)
        return resolved, self._chosen, Code(resolved)

    def _change(self, builds, chosen, compiled):
        self._past = self._past + [(self._builds, self._chosen, self._compiled)]
        self._builds = builds
        self._chosen = chosen
        self._compiled = compiled

    def publish(self, library):
        """Add a version and return its number."""
        self._change(self._builds + [Build(library)], self._chosen, self._compiled)
        return len(self._builds) - 1

    def install(self, number):
        """Install a version and return the list of the clients that are out then."""
        if not is_number(number, len(self._builds)):
            raise NoVersion(number)
        self._change(self._builds, number, self._compiled)
        return self.out()

    def add(self, client):
        """Compile a client with the installed version and return its number."""
        self._change(self._builds, self._chosen, self._compiled + [self._compile(client)])
        return len(self._compiled) - 1

    def again(self, number):
        """Compile a client anew with the installed version and return whether it has the same code as before."""
        old, _, code = self._client(number)
        anew = self._compile(old.client)
        compiled = self._compiled[:number] + [anew] + self._compiled[number + 1:]
        self._change(self._builds, self._chosen, compiled)
        return anew[2] == code

    def versions(self):
        """Return the list of the libraries."""
        return [build.library for build in self._builds]

    def clients(self):
        """Return the list of the pairs (client, number of the version with which it was compiled last)."""
        return [(resolved.client, number) for resolved, number, _ in self._compiled]

    def installed(self):
        """Return the number of the installed version."""
        return self._chosen

    def standing(self, number):
        """Return what a client, as it was compiled last, is to the installed version."""
        resolved, _, code = self._client(number)
        library = self._build().library
        for need in lacking(resolved, library):
            return "lacks", need
        return ("alike",) if Code(resolved, library) == code else ("other",)

    def out(self):
        """Return the ascending list of the clients that are not alike."""
        return [number for number in range(len(self._compiled)) if self.standing(number) != ("alike",)]

    def run(self, number, *, most=1000):
        """Return the pair (said, end) of a run of the code of a client with the installed version."""
        _, _, code = self._client(number)
        return run_code(code, self._build(), most=most)

    def by_turns(self, numbers, pace, *, most=1000):
        """Return what some clients say that are run by turns, as pairs (position, number), and how they end."""
        if not isinstance(numbers, (list, tuple)):
            raise NoNumber(numbers)
        codes = [self._client(number)[2] for number in numbers]
        if not is_integer(pace) or pace < 1:
            raise NoPace(pace)
        turns = [Turns(Machine(code, self._build(), most, Deaf())) for code in codes]
        said = []
        while any([turn.machine.ended is None for turn in turns]):
            for position, turn in enumerate(turns):
                said.extend([(position, number) for number in turn.next_said(pace)])
        return said, [turn.machine.ended for turn in turns]

    def back(self):
        """Take back the last change that was not taken back, and return whether there was one."""
        if not self._past:
            return False
        self._builds, self._chosen, self._compiled = self._past[-1]
        self._past = self._past[:-1]
        return True
