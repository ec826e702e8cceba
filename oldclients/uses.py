"""What statements give to which classes, and which members they use (points 30 and 32)."""

from oldclients.forms import is_whole, meaning_of


def given(scope, value, wanted):
    """Return the pair (class of a reference, class where it is given) for an operand; None for null and numbers."""
    if is_whole(wanted) or value is None:
        return None
    return scope.forms[value], wanted


def answered(scope, variable, form):
    """Return the pair of classes for a variable, or None, that is set to what a form means; None if there is none."""
    if variable is None or is_whole(form):
        return None
    return form, scope.forms[variable]


def called(scope, variable, args, declared):
    """Return the pairs of classes for the arguments and the result of a method or routine."""
    rows = [given(scope, value, meaning_of(form)) for value, (_, form) in zip(args, declared.params)]
    return rows + [answered(scope, variable, meaning_of(declared.result))]


def form_of_field(scope, thing):
    """Return the form of the field that a thing is."""
    return scope.world.field(thing[1], thing[2]).form


def gifts_or_none(scope, step):
    """Return the pairs of classes of the references that a statement gives, with None where none is given."""
    match step[0]:
        case "set":
            return [given(scope, step[2], scope.forms[step[1]])]
        case "new":
            return [answered(scope, step[1], step[2])]
        case "get":
            return [answered(scope, step[1], meaning_of(form_of_field(scope, step[3])))]
        case "put":
            return [given(scope, step[3], meaning_of(form_of_field(scope, step[2])))]
        case "call":
            return called(scope, step[1], step[4], scope.world.method(step[3][1], step[3][2]))
        case "do":
            return called(scope, step[1], step[3], scope.world.routine(step[2]))
        case "return":
            return [given(scope, step[1], scope.result)]
    return []


def gifts(scope, step):
    """Return the pairs (class of a reference, class where it is given) of a statement, for different classes alone."""
    return [pair for pair in gifts_or_none(scope, step) if pair is not None and pair[0] != pair[1]]


def members_used(scope, step):
    """Return the list of the pairs (class of the variable, thing) of a statement that uses a member."""
    if step[0] == "get" or step[0] == "call":
        return [(scope.forms[step[2]], step[3])]
    if step[0] == "put":
        return [(scope.forms[step[1]], step[2])]
    return []


def all_steps(steps):
    """Return the list of all statements, also of those inside others, as they are written."""
    rows = []
    for step in steps:
        rows.append(step)
        if step[0] in ("if", "while"):
            for inner in step[2:]:
                rows = rows + all_steps(inner)
    return rows
