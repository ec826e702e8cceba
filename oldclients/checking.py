"""Which classes and routines make a library (point 8)."""

from oldclients.declared import Class
from oldclients.errors import NoLibrary
from oldclients.families import Family, are_one_parts, do_names_agree, introduced_by, overriding
from oldclients.forms import is_class_name, is_mark
from oldclients.members import is_field, is_method, is_pair, is_row, wrong_member, wrong_of_routine

MOST_CLASSES = 20
MOST_ROUTINES = 20
MOST_BASES = 4
MOST_FIELDS = 8
MOST_METHODS = 8
BASE_KINDS = ("plain", "shared")


def named_classes(classes):
    """Return the names that forms may have, as a dict; also those of classes that are invalid otherwise."""
    return {item.name: True for item in classes if isinstance(item, Class) and is_class_name(item.name)}


def is_base(value, earlier):
    """Tell whether a value is a pair of the name of an earlier class and a kind."""
    if not is_pair(value):
        return False
    name, kind = value
    return isinstance(name, str) and name in earlier and isinstance(kind, str) and kind in BASE_KINDS


def wrong_base(bases, earlier):
    """Return the index that NoLibrary has for the bases of a class, None if they are right."""
    if not is_row(bases, MOST_BASES):
        return -1
    known = []
    for index, base in enumerate(bases):
        if not is_base(base, earlier) or base[0] in known:
            return index
        known.append(base[0])
    return None


def wrong_in_head(item, family, is_name, earlier):
    """Return the pair (part, index) of what is wrong with a class ahead of its members, None if nothing is.

    is_name tells what names such classes may have, earlier has the names of the classes that may be bases.
    """
    if not isinstance(item, Class):
        return "class", -1
    if not is_name(item.name) or item.name in family.classes:
        return "name", -1
    index = wrong_base(item.bases, earlier)
    if index is not None:
        return "bases", index
    family.take_bases(item)
    if not are_one_parts(family, item.name):
        return "parts", -1
    return None


def wrong_in_rows(item, names):
    """Return the pair (part, index) of the first wrong field or method of a class, None if there is none."""
    index = wrong_member(item.fields, MOST_FIELDS, [], names, is_field)
    if index is not None:
        return "fields", index
    taken = [field.name for field in item.fields]
    index = wrong_member(item.methods, MOST_METHODS, taken, names, is_method)
    if index is not None:
        return "methods", index
    return None


def wrong_in_family(item, family, hidden):
    """Return the pair (part, index) of what is wrong with the members of a class beside those of its ancestors.

    hidden tells whether hidden names of the library count.
    """
    if not do_names_agree(family, item.name, hidden):
        return "names", -1
    if item.name in family.overs:
        family.overs[item.name] = overriding(family, item)
    family.take_methods(item, introduced_by(family, item, hidden))
    if None in list(family.lasts[item.name].values()):
        return "overrides", -1
    return None


def wrong_in_class(item, family, names):
    """Return the pair (part, index) of what is wrong with a class of a library, None if nothing is."""
    wrong = wrong_in_head(item, family, is_class_name, family.classes)
    if wrong is None:
        wrong = wrong_in_rows(item, names)
    if wrong is None:
        wrong = wrong_in_family(item, family, True)
    if wrong is None and not (is_mark(item.closed) and is_mark(item.lent)):
        wrong = "marks", -1
    return wrong


def checked_family(classes):
    """Return the Family of the classes of a library; raise NoLibrary for the first invalid one."""
    family = Family()
    names = named_classes(classes)
    for number, item in enumerate(classes):
        wrong = wrong_in_class(item, family, names)
        if wrong is not None:
            part, index = wrong
            raise NoLibrary(number, part, index)
    return family


def check_rows(classes, routines):
    """Raise NoLibrary if the arguments of Library are not such rows as they must be."""
    if not isinstance(classes, list) or len(classes) > MOST_CLASSES:
        raise NoLibrary(-1, "classes", -1)
    if not isinstance(routines, (list, tuple)) or len(routines) > MOST_ROUTINES:
        raise NoLibrary(-1, "routines", -1)


def check_routines(routines, names):
    """Raise NoLibrary for the first invalid routine of a library with classes of these names."""
    taken = []
    for number, routine in enumerate(routines):
        index = wrong_of_routine(routine, taken, names)
        if index is not None:
            raise NoLibrary(number, "routine", index)
        taken.append(routine.name)
