"""What texts declare (point 73); each function takes a Reader and leaves it behind what it read."""

from oldclients.declared import Body, Class, Field, Method, Routine
from oldclients.errors import NoText

MOST_INSIDE = 100


def read_listed(reader, end, rule):
    """Return the tuple of what stands between commas, up to a token that ends it; there may be nothing."""
    rows = []
    if reader.skip(end):
        return ()
    rows.append(rule(reader))
    while not reader.skip(end):
        reader.expect(",")
        rows.append(rule(reader))
    return tuple(rows)


def read_pair(reader):
    """Return a pair (name, form)."""
    name = reader.read_name()
    return name, reader.read_name()


def read_value(reader):
    """Return an operand."""
    return reader.read_operand()


def read_target(reader):
    """Return the variable that is set to something."""
    variable = reader.read_name()
    reader.expect("=")
    return variable


def read_member(reader):
    """Return the pair of a variable and the name of a member."""
    holder = reader.read_name()
    reader.expect(".")
    return holder, reader.read_name()


def read_set(reader, word, depth):
    """Return a set."""
    return word, read_target(reader), reader.read_operand()


def read_sum(reader, word, depth):
    """Return an add or a less."""
    return word, read_target(reader), reader.read_operand(), reader.read_operand()


def read_named(reader, word, depth):
    """Return a new or a cast."""
    return word, read_target(reader), reader.read_name()


def read_get(reader, word, depth):
    """Return a get."""
    return word, read_target(reader), *read_member(reader)


def read_put(reader, word, depth):
    """Return a put."""
    holder, member = read_member(reader)
    reader.expect("=")
    return word, holder, member, reader.read_operand()


def read_answer(reader):
    """Return the pair: the variable for the result, or None, and the name that stands behind it."""
    name = reader.read_name()
    return (name, reader.read_name()) if reader.skip("=") else (None, name)


def read_call(reader, word, depth):
    """Return a call."""
    variable, holder = read_answer(reader)
    reader.expect(".")
    member = reader.read_name()
    reader.expect("(")
    return word, variable, holder, member, read_listed(reader, ")", read_value)


def read_do(reader, word, depth):
    """Return a do."""
    variable, name = read_answer(reader)
    reader.expect("(")
    return word, variable, name, read_listed(reader, ")", read_value)


def read_single(reader, word, depth):
    """Return a say or a return."""
    return word, reader.read_operand()


def read_if(reader, word, depth):
    """Return an if, which stands within so many others."""
    test = reader.read_operand()
    reader.expect("{")
    first = read_steps(reader, depth + 1)
    reader.expect("else")
    reader.expect("{")
    return word, test, first, read_steps(reader, depth + 1)


def read_while(reader, word, depth):
    """Return a while, which stands within so many others."""
    test = reader.read_operand()
    reader.expect("{")
    return word, test, read_steps(reader, depth + 1)


RULES = {
    "set": read_set, "add": read_sum, "less": read_sum, "new": read_named, "get": read_get, "put": read_put,
    "call": read_call, "do": read_do, "cast": read_named, "say": read_single, "if": read_if, "while": read_while,
    "return": read_single,
}


def read_steps(reader, depth):
    """Return the tuple of the statements up to the brace that ends them; they stand within so many if and while."""
    steps = []
    while not reader.skip("}"):
        word = reader.here()
        if word not in RULES or (word in ("if", "while") and depth >= MOST_INSIDE):
            raise NoText(reader.at)
        reader.expect(word)
        rule = RULES[word]
        steps.append(rule(reader, word, depth))
    return tuple(steps)


def read_body(reader):
    """Return the pair (variables, statements) of a body in braces."""
    reader.expect("{")
    variables = []
    while reader.skip("var"):
        variables.append(read_pair(reader))
    return tuple(variables), read_steps(reader, 0)


def read_head(reader):
    """Return the tuple (name, parameters, result) of a method or routine."""
    name = reader.read_name()
    reader.expect("(")
    params = read_listed(reader, ")", read_pair)
    return name, params, reader.read_name() if reader.skip(":") else None


def read_field(reader):
    """Return a field."""
    reader.expect("field")
    name, form = read_pair(reader)
    start = reader.read_integer() if reader.skip("=") else 0
    return Field(name, form, start, not reader.skip("hidden"))


def read_method(reader):
    """Return a method."""
    kind = reader.one_of(("plain", "open", "bare"))
    name, params, result = read_head(reader)
    shown = not reader.skip("hidden")
    body = None
    if kind != "bare":
        variables, steps = read_body(reader)
        body = Body(variables, steps)
    return Method(name, kind, params, result, body, shown)


def read_base(reader):
    """Return a pair (class, kind) of a base."""
    kind = reader.one_of(("plain", "shared"))
    return reader.read_name(), kind


def read_bases(reader):
    """Return the tuple of the bases of a class, if it has some."""
    bases = []
    if reader.skip(":"):
        bases.append(read_base(reader))
        while reader.skip(","):
            bases.append(read_base(reader))
    return tuple(bases)


def read_class(reader):
    """Return a class."""
    reader.expect("class")
    name = reader.read_name()
    bases = read_bases(reader)
    closed = reader.skip("closed")
    lent = reader.skip("lent")
    reader.expect("{")
    fields, methods = [], []
    while reader.here() == "field":
        fields.append(read_field(reader))
    while not reader.skip("}"):
        methods.append(read_method(reader))
    return Class(name, bases, tuple(fields), tuple(methods), closed, lent)


def read_classes(reader):
    """Return the list of the classes that stand here."""
    classes = []
    while reader.here() == "class":
        classes.append(read_class(reader))
    return classes


def read_routines(reader):
    """Return the list of the routines that stand here."""
    routines = []
    while reader.skip("routine"):
        name, params, result = read_head(reader)
        variables, steps = read_body(reader)
        routines.append(Routine(name, params, result, Body(variables, steps)))
    return routines


def read_main(reader):
    """Return the pair (variables, statements) of the main routine of a client."""
    reader.expect("main")
    return read_body(reader)
