"""Which fields, methods, bodies and routines are valid (point 5); classes are the names that forms may have."""

from oldclients.declared import Body, Field, Method, Routine
from oldclients.forms import is_form, is_mark, is_small_name, is_start

MOST_PARAMS = 4
MOST_VARIABLES = 16
KINDS = ("plain", "open", "bare")


def is_row(value, most):
    """Tell whether a value is a tuple of at most so many items."""
    return isinstance(value, tuple) and len(value) <= most


def is_pair(value):
    """Tell whether a value is a pair."""
    return isinstance(value, tuple) and len(value) == 2


def are_variables(value, most, taken, classes):
    """Tell whether a value is a row of pairs (name, form) with different names that are not taken."""
    if not is_row(value, most):
        return False
    known = list(taken)
    for pair in value:
        if not is_pair(pair):
            return False
        name, form = pair
        if not is_small_name(name) or name in known or not is_form(form, classes):
            return False
        known.append(name)
    return True


def are_params(value, classes):
    """Tell whether a value is a row of parameters."""
    return are_variables(value, MOST_PARAMS, ["this"], classes)


def is_result(value, classes):
    """Tell whether a value is a result: a form, or None."""
    return value is None or is_form(value, classes)


def is_body(value, params, classes):
    """Tell whether a value is a body behind these valid parameters; its statements are not looked at."""
    if not isinstance(value, Body) or not isinstance(value.steps, tuple):
        return False
    taken = ["this"] + [name for name, _ in params]
    return are_variables(value.variables, MOST_VARIABLES, taken, classes)


def is_field(value, classes):
    """Tell whether a value is a valid field."""
    return (isinstance(value, Field) and is_small_name(value.name) and is_form(value.form, classes)
            and is_start(value.start, value.form) and is_mark(value.shown))


def is_method(value, classes):
    """Tell whether a value is a valid method."""
    if not isinstance(value, Method) or not is_small_name(value.name):
        return False
    if not isinstance(value.kind, str) or value.kind not in KINDS:
        return False
    if not are_params(value.params, classes) or not is_result(value.result, classes):
        return False
    if not is_mark(value.shown):
        return False
    if value.kind == "bare":
        return value.body is None
    return is_body(value.body, value.params, classes)


def wrong_member(rows, most, taken, classes, is_right):
    """Return the index of the first wrong member, -1 if the rows are no row of so many, None if all are right.

    A member is wrong if is_right tells so, or if its name is taken or that of an earlier member.
    """
    if not is_row(rows, most):
        return -1
    known = list(taken)
    for index, member in enumerate(rows):
        if not is_right(member, classes) or member.name in known:
            return index
        known.append(member.name)
    return None


def wrong_of_routine(value, taken, classes):
    """Return what NoLibrary has as the index for a routine behind routines with these names, None if it is right."""
    if not isinstance(value, Routine):
        return -1
    if not is_small_name(value.name) or value.name in taken:
        return 0
    if not are_params(value.params, classes):
        return 1
    if not is_result(value.result, classes):
        return 2
    if not is_body(value.body, value.params, classes):
        return 3
    return None
