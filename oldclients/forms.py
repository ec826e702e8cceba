"""Integers, marks, names and forms (points 2 and 5)."""

SMALL = "abcdefghijklmnopqrstuvwxyz"
CAPITAL = "ABCDEFGHIJKLMNOPQRSTUVWXYZ"
SIGNS = "abcdefghijklmnopqrstuvwxyzABCDEFGHIJKLMNOPQRSTUVWXYZ0123456789"
LONGEST_NAME = 12
SIZES = {"int1": 1, "int2": 2, "int4": 4, "int8": 8}
REFERENCE_SIZE = 8


def is_integer(value):
    """Tell whether a value is an int that is not a bool."""
    return isinstance(value, int) and not isinstance(value, bool)


def is_mark(value):
    """Tell whether a value is True or False; 0 and 1 are neither, though they are equal to them."""
    return isinstance(value, bool)


def has_name_signs(value):
    """Tell whether a value is a text of a name's length and signs, whatever sign is the first one."""
    return (isinstance(value, str) and 1 <= len(value) <= LONGEST_NAME
            and all([sign in SIGNS for sign in value]))


def is_class_name(value):
    """Tell whether a value can be the name of a class of a library."""
    return has_name_signs(value) and value[0] in CAPITAL


def is_small_name(value):
    """Tell whether a value can be the name of anything else."""
    return has_name_signs(value) and value[0] in SMALL


def is_form(value, classes):
    """Tell whether a value is a form, if these are the names of the classes."""
    return isinstance(value, str) and (value in SIZES or value in classes)


def form_size(form):
    """Return the number of bytes that a form takes."""
    return SIZES.get(form, REFERENCE_SIZE)


def meaning_of(form):
    """Return what a form means where it stands: the size of a whole number, or the name of a class; None stays None.

    A class of a client may have the name of a whole number, which means the class wherever no form stands.
    """
    return SIZES.get(form, form)


def is_whole(meaning):
    """Tell whether a whole number is meant, and no class."""
    return isinstance(meaning, int)


def meaning_size(meaning):
    """Return the number of bytes that what is meant takes."""
    return meaning if is_whole(meaning) else REFERENCE_SIZE


def is_start(value, form):
    """Tell whether a field of this form can have this value in a new object."""
    if not is_integer(value):
        return False
    if form not in SIZES:
        return value == 0
    limit = 1 << (8 * SIZES[form] - 1)
    return -limit <= value < limit
