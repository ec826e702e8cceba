"""How clients go on with another library: as they are, or compiled anew (points 55 to 58)."""

from oldclients.clients import Resolved
from oldclients.compiler import Code, lacking
from oldclients.errors import NoBody, NoClient
from oldclients.exposed import unlike
from oldclients.small import refused_client

WAYS = {(True, True): "both", (True, False): "linked", (False, True): "anew", (False, False): "neither"}


def meanings(resolved):
    """Return what the names of a client mean: its statements with things, and the names that its classes override."""
    return [script.steps for script in resolved.scripts], resolved.world.family.overs


def accepted(resolved, library):
    """Return whether another library lacks nothing that a client needs, and its names mean the same things there."""
    if lacking(resolved, library):
        return False
    try:
        other = Resolved(resolved.client, library)
    except (NoClient, NoBody):
        return False
    return meanings(resolved) == meanings(other)


def unaccepted(old, new):
    """Return a small client of a library that another one does not accept alike, None if there is none."""
    return refused_client(old, new)


def keeps_code(resolved, library):
    """Return whether a library lacks nothing that a client needs, and gives it the code that it has."""
    return not lacking(resolved, library) and Code(resolved, library) == Code(resolved)


def way_on(resolved, library):
    """Return how a client can go on with another library: "both", "linked", "anew" or "neither"."""
    return WAYS[keeps_code(resolved, library), accepted(resolved, library)]


def kind_of_change(old, new):
    """Return how the clients of a library can go on with another one: "both", "linked", "anew" or "neither"."""
    return WAYS[unlike(old, new) is None, unaccepted(old, new) is None]
