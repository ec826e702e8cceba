"""What clients need of a library, and their code (points 30 to 34)."""

from oldclients.class_codes import class_code
from oldclients.emitting import body_code
from oldclients.errors import Lacks
from oldclients.layouts import Layout
from oldclients.needing import all_needs, offered
from oldclients.worlds import later_world


def needs(resolved):
    """Return the ascending list of all that a client needs of a library."""
    return all_needs(resolved)


def lacking(resolved, library):
    """Return the ascending list of what a client needs and a library does not have for it."""
    offers = {offer: True for offer in offered(library)}
    return [need for need in all_needs(resolved) if need not in offers]


def world_with(resolved, library):
    """Return the world of a client with a library, its own one if None; raise Lacks with the first need it lacks."""
    if library is None:
        return resolved.world
    for need in lacking(resolved, library):
        raise Lacks(need)
    return later_world(resolved.world, library)


class Code:
    """The code of a client, with the numbers of a library: its own one, or another version."""

    def __init__(self, resolved, library=None):
        world = world_with(resolved, library)
        layout = Layout(world)
        self.classes = tuple([class_code(world, layout, item.name) for item in resolved.client.classes])
        self.bodies = tuple([(script.where, body_code(script, layout)) for script in resolved.scripts])

    def __eq__(self, other):
        return isinstance(other, Code) and self.classes == other.classes and self.bodies == other.bodies
