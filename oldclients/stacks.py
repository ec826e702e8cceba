"""Libraries on top of others, which are compiled by themselves (points 65 to 68)."""

from oldclients.anew import keeps_code
from oldclients.errors import NoBody, NoLibrary
from oldclients.libraries import Library
from oldclients.machine import Build


class Upper:
    """Classes that may derive from those of a lower library, and routines; joined looks at them."""

    def __init__(self, classes, routines=()):
        self.classes = tuple(classes) if isinstance(classes, list) else classes
        self.routines = tuple(routines) if isinstance(routines, list) else routines

    def __eq__(self, other):
        return isinstance(other, Upper) and self.classes == other.classes and self.routines == other.routines


def behind(rows, more):
    """Return the list of some items and more of them; what is no row stays as it is, so that Library refuses it."""
    return rows + list(more) if isinstance(more, tuple) else more


def joined(lower, upper):
    """Return the library of the classes and routines of a library, and then those of an upper one."""
    classes = [lower.item(name) for name in lower.names()]
    return Library(behind(classes, upper.classes), behind(lower.routines(), upper.routines))


def is_of(where, library):
    """Tell whether a body belongs to a library."""
    owner, name = where
    if owner:
        return owner in library
    return name in [routine.name for routine in library.routines()]


class Part:
    """An upper library that was compiled with a lower one."""

    def __init__(self, upper, lower):
        build = Build(joined(lower, upper))
        self.upper = upper
        self.lower = lower
        self._classes = {name: build.classes[name] for name in build.classes if name not in lower}
        self._bodies = {where: build.bodies[where] for where in build.bodies if not is_of(where, lower)}

    def __eq__(self, other):
        return isinstance(other, Part) and self.upper == other.upper and self.lower == other.lower

    def code(self):
        """Return the pair of dicts (classes, bodies) of what was compiled, without the lower library."""
        return ({name: self._classes[name] for name in self._classes},
                {where: self._bodies[where] for where in self._bodies})

    def agrees(self, other):
        """Return whether the upper library gets the same code with another lower one."""
        try:
            part = Part(self.upper, other)
        except (NoLibrary, NoBody):
            return False
        return self.code() == part.code()


def merged(entries, others):
    """Return a dict with the entries of two dicts; where both have one, that of the other one."""
    both = {key: entries[key] for key in entries}
    for key in others:
        both[key] = others[key]
    return both


def linked(lower, part):
    """Return the pair of dicts (classes, bodies) of a lower library and a part that are put together as they are."""
    build = Build(lower)
    classes, bodies = part.code()
    return merged(build.classes, classes), merged(build.bodies, bodies)


def together(lowers, parts):
    """Return the ascending list of the pairs (number of a lower library, number of a part) that agree."""
    return [(i, j) for i, lower in enumerate(lowers) for j, part in enumerate(parts) if part.agrees(lower)]


def joined_pairs(lowers, parts):
    """Return the list of the tuples (pair, library) of the pairs that agree, with what they are together."""
    return [((i, j), joined(lowers[i], parts[j].upper)) for i, j in together(lowers, parts)]


def serving(lowers, parts, resolved):
    """Return the list of the pairs that agree, lack nothing that a client needs, and give it its old code."""
    return [pair for pair, library in joined_pairs(lowers, parts) if keeps_code(resolved, library)]


def best_pair(lowers, parts, clients):
    """Return the tuple (pair, numbers of clients) of the pair that is right for the most clients, or None."""
    best = None
    for pair, library in joined_pairs(lowers, parts):
        numbers = [number for number, resolved in enumerate(clients) if keeps_code(resolved, library)]
        # the pairs ascend, so that of several the last one is the greatest
        if best is None or len(numbers) >= len(best[1]):
            best = pair, numbers
    return best
