"""Which statements are valid, and what their member names mean (point 26)."""

from oldclients.forms import is_integer, is_whole, meaning_of

LEAST_NUMBER = -(1 << 63)
MOST_NUMBER = (1 << 63) - 1


class Scope:
    """What a body sees: a world, what the forms of its variables mean by their names, and that of its result, or None.

    All forms here are what they mean: so `this` is a reference, whatever its class is called.
    """

    def __init__(self, world, forms, result):
        self.world = world
        self.forms = forms
        self.result = result

    def is_variable(self, value):
        """Tell whether a value is the name of a variable."""
        return isinstance(value, str) and value in self.forms

    def can_set(self, value):
        """Tell whether a value is the name of a variable that can be set."""
        return self.is_variable(value) and value != "this"

    def class_of(self, value):
        """Return the class to which a variable refers, None if a value is no variable for references."""
        if not self.is_variable(value) or is_whole(self.forms[value]):
            return None
        return self.forms[value]

    def is_number(self, value):
        """Tell whether a value is an operand for a number."""
        if is_integer(value):
            return LEAST_NUMBER <= value <= MOST_NUMBER
        return self.is_variable(value) and is_whole(self.forms[value])

    def goes_into(self, form, wanted):
        """Tell whether what has a form can be given where another form, or the same one, is wanted."""
        if is_whole(form) or is_whole(wanted):
            return is_whole(form) and is_whole(wanted)
        return self.world.derives(form, wanted)

    def fits(self, value, wanted):
        """Tell whether a value is an operand that can be given where a form is wanted."""
        if is_whole(wanted):
            return self.is_number(value)
        if value is None:
            return True
        return self.is_variable(value) and self.goes_into(self.forms[value], wanted)

    def takes(self, variable, form):
        """Tell whether a value is the name of a variable that can be set to what has a form."""
        return self.can_set(variable) and self.goes_into(form, self.forms[variable])

    def thing(self, variable, member, words):
        """Return the thing of these kinds that a member name means at a variable for references, or None."""
        name = self.class_of(variable)
        if name is None:
            return None
        thing = self.world.found(name, member)
        return thing if thing is not None and thing[0] in words else None

    def is_answered(self, variable, args, params, result):
        """Tell whether a call has operands for the parameters, and a variable for the result, or None."""
        if not isinstance(args, tuple) or len(args) != len(params):
            return False
        if not all([self.fits(value, meaning_of(form)) for value, (_, form) in zip(args, params)]):
            return False
        return variable is None or (result is not None and self.takes(variable, meaning_of(result)))


def resolved_set(scope, step):
    """Return a valid ("set", x, a)."""
    _, variable, value = step
    return step if scope.can_set(variable) and scope.fits(value, scope.forms[variable]) else None


def resolved_sum(scope, step):
    """Return a valid ("add", x, a, b) or ("less", x, a, b)."""
    _, variable, one, other = step
    right = scope.can_set(variable) and all([scope.is_number(value) for value in (variable, one, other)])
    return step if right else None


def resolved_new(scope, step):
    """Return a valid ("new", x, C)."""
    _, variable, name = step
    right = scope.world.has(name) and scope.takes(variable, name) and scope.world.can_make(name)
    return step if right else None


def resolved_get(scope, step):
    """Return a valid ("get", x, y, member) with the thing in the place of the member."""
    word, variable, holder, member = step
    thing = scope.thing(holder, member, ("field",))
    if thing is None or not scope.takes(variable, meaning_of(scope.world.field(thing[1], thing[2]).form)):
        return None
    return (word, variable, holder, thing)


def resolved_put(scope, step):
    """Return a valid ("put", y, member, a) with the thing in the place of the member."""
    word, holder, member, value = step
    thing = scope.thing(holder, member, ("field",))
    if thing is None or not scope.fits(value, meaning_of(scope.world.field(thing[1], thing[2]).form)):
        return None
    return (word, holder, thing, value)


def resolved_call(scope, step):
    """Return a valid ("call", x, y, member, args) with the thing in the place of the member."""
    word, variable, holder, member, args = step
    thing = scope.thing(holder, member, ("open", "plain"))
    if thing is None:
        return None
    method = scope.world.method(thing[1], thing[2])
    if not scope.is_answered(variable, args, method.params, method.result):
        return None
    return (word, variable, holder, thing, args)


def resolved_do(scope, step):
    """Return a valid ("do", x, routine, args)."""
    _, variable, name, args = step
    routine = scope.world.routine(name)
    if routine is None or not scope.is_answered(variable, args, routine.params, routine.result):
        return None
    return step


def resolved_cast(scope, step):
    """Return a valid ("cast", x, y)."""
    _, variable, other = step
    name = scope.class_of(other)
    right = (name is not None and scope.world.is_open(name) and scope.can_set(variable)
             and scope.class_of(variable) is not None)
    return step if right else None


def resolved_say(scope, step):
    """Return a valid ("say", a)."""
    return step if scope.is_number(step[1]) else None


def resolved_test(scope, step):
    """Return an if or while whose test is valid, and whose steps are tuples; these are not looked at."""
    right = scope.is_number(step[1]) or scope.is_variable(step[1])
    return step if right and all([isinstance(steps, tuple) for steps in step[2:]]) else None


def resolved_return(scope, step):
    """Return a valid ("return", a)."""
    value = step[1]
    right = value is None if scope.result is None else scope.fits(value, scope.result)
    return step if right else None


RULES = {
    "set": (3, resolved_set), "add": (4, resolved_sum), "less": (4, resolved_sum), "new": (3, resolved_new),
    "get": (4, resolved_get), "put": (4, resolved_put), "call": (5, resolved_call), "do": (4, resolved_do),
    "cast": (3, resolved_cast), "say": (2, resolved_say), "if": (4, resolved_test), "while": (3, resolved_test),
    "return": (2, resolved_return),
}


def resolved_statement(scope, step):
    """Return a statement with things in the place of member names, None if a value is no valid statement.

    The steps inside an if or a while stay as they are.
    """
    if not isinstance(step, tuple) or len(step) == 0 or not isinstance(step[0], str) or step[0] not in RULES:
        return None
    size, rule = RULES[step[0]]
    return rule(scope, step) if len(step) == size else None
