"""A row of versions of a library, and which of them can stand for others (points 60 to 63)."""

from oldclients.anew import keeps_code
from oldclients.choosing import subsets
from oldclients.errors import NoVersion, NoVersions
from oldclients.exposed import exposed, first_unlike
from oldclients.forms import is_integer
from oldclients.libraries import Library

MOST_VERSIONS = 8


def check_versions(libraries):
    """Raise NoVersions if a value is no row of one to eight libraries."""
    if not isinstance(libraries, (list, tuple)) or not 1 <= len(libraries) <= MOST_VERSIONS:
        raise NoVersions(-1)
    for index, library in enumerate(libraries):
        if not isinstance(library, Library):
            raise NoVersions(index)


class Versions:
    """A row of versions of a library, the oldest one first, numbered from 0."""

    def __init__(self, libraries):
        check_versions(libraries)
        self._libraries = list(libraries)
        rows = [exposed(library) for library in libraries]
        self._served = [[first_unlike(old, new) is None for new in rows] for old in rows]

    def __eq__(self, other):
        return isinstance(other, Versions) and self._libraries == other._libraries

    def __len__(self):
        return len(self._libraries)

    def libraries(self):
        """Return the list of the libraries."""
        return list(self._libraries)

    def serves(self, old, new):
        """Return whether a version leaves all clients of another one alike."""
        for number in (old, new):
            if not is_integer(number) or not 0 <= number < len(self._libraries):
                raise NoVersion(number)
        return self._served[old][new]


def fits(versions, row, label):
    """Tell whether the next version serves the clients of all earlier ones with a label."""
    return all([versions.serves(number, len(row)) for number, other in enumerate(row) if other == label])


def labelled(versions, row, most):
    """Return a row of labels that begins with a row and has at most so many different ones, None if there is none."""
    if len(row) == len(versions):
        return row
    used = max(row, default=-1) + 1
    for label in range(min(used + 1, most)):
        if fits(versions, row, label):
            found = labelled(versions, row + [label], most)
            if found is not None:
                return found
    return None


def labels(versions):
    """Return a label for each version, as few as possible, so that a later one serves all earlier ones with its own."""
    most = 1
    found = labelled(versions, [], most)
    while found is None:
        most += 1
        found = labelled(versions, [], most)
    return found


def are_apart(versions, row):
    """Tell whether no later one of some versions serves the clients of an earlier one."""
    return not any([versions.serves(row[at], number) for place, number in enumerate(row) for at in range(place)])


def apart(versions):
    """Return an ascending list of versions, as long as possible, of which no later one serves an earlier one."""
    return max([row for row in subsets(len(versions)) if are_apart(versions, row)], key=len)


def first_gap(versions):
    """Return the least tuple (i, j, k) where version k serves the clients of i and j between does not, or None."""
    for i in range(len(versions)):
        for j in range(i + 1, len(versions)):
            for k in range(j + 1, len(versions)):
                if versions.serves(i, k) and not versions.serves(i, j):
                    return i, j, k
    return None


def running(versions, resolved):
    """Return the ascending list of the versions that give a client its old code, and lack nothing that it needs."""
    return [number for number, library in enumerate(versions.libraries()) if keeps_code(resolved, library)]


def fewest_kept(versions, clients):
    """Return the least of the shortest lists of versions with which all clients run, None if there is none."""
    rows = [running(versions, client) for client in clients]
    kept = [some for some in subsets(len(versions))
            if all([any([number in row for number in some]) for row in rows])]
    return min(kept, key=lambda some: (len(some), some)) if kept else None
