"""The code of bodies (points 31 and 32)."""

from oldclients.flattening import flat_rows
from oldclients.forms import REFERENCE_SIZE, is_whole, meaning_of, meaning_size
from oldclients.uses import form_of_field


class Row:
    """The instructions of one statement, with helping variables that are numbered from 1 on."""

    def __init__(self, scope, layout):
        self.scope = scope
        self.layout = layout
        self.many = 0
        self.deeds = []

    def helper(self):
        """Return the next helping variable."""
        self.many += 1
        return str(self.many)

    def way(self, holder, owner):
        """Return the way from the reference in a variable to the part of a class."""
        return self.layout.reach(self.scope.forms[holder], owner)

    def field_way(self, holder, thing):
        """Return the way from the reference in a variable to a field."""
        return self.layout.field_reach(self.scope.forms[holder], thing[1], thing[2])

    def operand(self, value, wanted):
        """Return what the deed takes for an operand; a reference that is given to another class is moved first."""
        if value is None:
            return 0
        if is_whole(wanted) or self.scope.forms[value] == wanted:
            return value
        helper = self.helper()
        self.deeds.append(("move", helper, value, self.way(value, wanted)))
        return helper

    def operands(self, args, declared):
        """Return what a call takes for its arguments."""
        return tuple([self.operand(value, meaning_of(form)) for value, (_, form) in zip(args, declared.params)])

    def give(self, variable, helper, form):
        """Set a variable, unless it is None, from a helping variable in which something is that a form means."""
        if variable is None:
            return
        wanted = self.scope.forms[variable]
        if is_whole(form) or form == wanted:
            self.deeds.append(("set", variable, helper, meaning_size(wanted)))
        else:
            self.deeds.append(("move", variable, helper, self.layout.reach(form, wanted)))


def put_set(row, step):
    """Put the instructions of a set; a reference to another class is moved at once."""
    _, variable, value = step
    form = row.scope.forms[variable]
    if value is None:
        row.deeds.append(("set", variable, 0, REFERENCE_SIZE))
    elif is_whole(form) or row.scope.forms[value] == form:
        row.deeds.append(("set", variable, value, meaning_size(form)))
    else:
        row.deeds.append(("move", variable, value, row.way(value, form)))


def put_sum(row, step):
    """Put the instruction of an add or a less."""
    word, variable, one, other = step
    row.deeds.append((word, variable, one, other, meaning_size(row.scope.forms[variable])))


def put_new(row, step):
    """Put the instructions of a new."""
    _, variable, name = step
    helper = row.helper()
    row.deeds.append(("make", helper, name, row.layout.whole_size(name)))
    row.give(variable, helper, name)


def put_get(row, step):
    """Put the instructions of a get."""
    _, variable, holder, thing = step
    form = meaning_of(form_of_field(row.scope, thing))
    helper = row.helper()
    row.deeds.append(("load", helper, holder, row.field_way(holder, thing), meaning_size(form)))
    row.give(variable, helper, form)


def put_put(row, step):
    """Put the instructions of a put."""
    _, holder, thing, value = step
    form = meaning_of(form_of_field(row.scope, thing))
    operand = row.operand(value, form)
    row.deeds.append(("store", holder, row.field_way(holder, thing), meaning_size(form), operand))


def put_call(row, step):
    """Put the instructions of a call: by the table if the method is open, otherwise straight."""
    _, variable, holder, thing, args = step
    word, owner, name = thing
    method = row.scope.world.method(owner, name)
    operands = row.operands(args, method)
    helper = row.helper()
    way = row.way(holder, owner)
    if word == "open":
        row.deeds.append(("call", helper, holder, way, row.layout.method_number(owner, name), operands))
    else:
        row.deeds.append(("link", helper, holder, way, (owner, name), operands))
    row.give(variable, helper, meaning_of(method.result))


def put_do(row, step):
    """Put the instructions of a do."""
    _, variable, name, args = step
    routine = row.scope.world.routine(name)
    operands = row.operands(args, routine)
    helper = row.helper()
    row.deeds.append(("do", helper, name, operands))
    row.give(variable, helper, meaning_of(routine.result))


def put_cast(row, step):
    """Put the instruction of a cast."""
    _, variable, other = step
    row.deeds.append(("cast", variable, other, row.scope.forms[variable]))


def put_say(row, step):
    """Put the instruction of a say."""
    row.deeds.append(step)


def put_return(row, step):
    """Put the instructions of a return; without a result it returns 0."""
    row.deeds.append(("return", row.operand(step[1], row.scope.result)))


def put_jump(row, step):
    """Put a test, or the jump behind some steps."""
    row.deeds.append(step)


DEEDS = {
    "set": put_set, "add": put_sum, "less": put_sum, "new": put_new, "get": put_get, "put": put_put,
    "call": put_call, "do": put_do, "cast": put_cast, "say": put_say, "return": put_return,
    "if": put_jump, "goto": put_jump,
}


def row_of(step, scope, layout):
    """Return the row of a statement."""
    row = Row(scope, layout)
    deed = DEEDS[step[0]]
    deed(row, step)
    return tuple(row.deeds)


def body_code(script, layout):
    """Return the code of a body: (params, size of the result, rows)."""
    rows = [row_of(step, script.scope, layout) for step in flat_rows(script.steps)]
    result = script.scope.result
    params = tuple([(name, meaning_size(form)) for name, form in script.params])
    return (params, REFERENCE_SIZE if result is None else meaning_size(result), tuple(rows))
