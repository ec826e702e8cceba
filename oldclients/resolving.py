"""Which classes and main routines make a client of a library (point 29)."""

from oldclients.checking import wrong_in_family, wrong_in_head, wrong_in_rows
from oldclients.declared import Class
from oldclients.errors import NoClient
from oldclients.forms import is_small_name
from oldclients.members import MOST_VARIABLES, are_variables
from oldclients.worlds import World

MOST_CLASSES = 8


def check_rows_of(client):
    """Raise NoClient if the classes, variables or statements of a client are not such rows as they must be."""
    if not isinstance(client.classes, tuple) or len(client.classes) > MOST_CLASSES:
        raise NoClient(-1, "classes", -1)
    if not isinstance(client.variables, tuple) or not isinstance(client.steps, tuple):
        raise NoClient(-1, "main", -1)


def form_names(classes, family):
    """Return the names that forms of a client may have, as a dict; also those of classes that are invalid otherwise."""
    names = {name: True for name in family.classes}
    for item in classes:
        if isinstance(item, Class) and is_small_name(item.name):
            names[item.name] = True
    return names


def base_names(family):
    """Return the names of the classes from which a class of the client may derive, as a dict."""
    return {name: True for name, item in family.classes.items() if name in family.overs or not item.closed}


def wrong_in_clients_class(item, family, names):
    """Return the pair (part, index) of what is wrong with a class of a client, None if nothing is."""
    wrong = wrong_in_head(item, family, is_small_name, base_names(family))
    if wrong is None:
        wrong = wrong_in_rows(item, names)
    if wrong is None:
        # what it overrides is found with its members; that it stands there tells that it is the client's
        family.overs[item.name] = []
        wrong = wrong_in_family(item, family, False)
    if wrong is None and not (item.closed is False and item.lent is False):
        wrong = "marks", -1
    return wrong


def client_world(client, library):
    """Return the world of the bodies of a client; raise NoClient for its first invalid class."""
    family = library.copied_family()
    names = form_names(client.classes, family)
    for number, item in enumerate(client.classes):
        wrong = wrong_in_clients_class(item, family, names)
        if wrong is not None:
            part, index = wrong
            raise NoClient(number, part, index)
    return World(library, family, False)


def check_main(client, world):
    """Raise NoClient if a variable of the main routine is invalid."""
    names = {name: True for name in world.names()}
    if not are_variables(client.variables, MOST_VARIABLES, ["this"], names):
        raise NoClient(-1, "main", -1)
