"""What libraries and clients declare (point 5). Objects keep what they are given; Library looks at it."""


class Field:
    """A field of a class; start is its value in a new object."""

    def __init__(self, name, form, start=0, shown=True):
        self.name = name
        self.form = form
        self.start = start
        self.shown = shown

    def __eq__(self, other):
        return (isinstance(other, Field) and self.name == other.name and self.form == other.form
                and self.start == other.start and self.shown == other.shown)


class Body:
    """What a method or a routine does: its variables and its statements."""

    def __init__(self, variables=(), steps=()):
        self.variables = variables
        self.steps = steps

    def __eq__(self, other):
        return isinstance(other, Body) and self.variables == other.variables and self.steps == other.steps


class Method:
    """A method of a class: plain, open (it can be overridden), or bare (open, and without a body)."""

    def __init__(self, name, kind, params=(), result=None, body=None, shown=True):
        self.name = name
        self.kind = kind
        self.params = params
        self.result = result
        self.body = body
        self.shown = shown

    def __eq__(self, other):
        return (isinstance(other, Method) and self.name == other.name and self.kind == other.kind
                and self.params == other.params and self.result == other.result
                and self.body == other.body and self.shown == other.shown)


class Class:
    """A class with its bases, which are plain or shared, and its own members."""

    def __init__(self, name, bases=(), fields=(), methods=(), closed=False, lent=False):
        self.name = name
        self.bases = bases
        self.fields = fields
        self.methods = methods
        self.closed = closed
        self.lent = lent

    def __eq__(self, other):
        return (isinstance(other, Class) and self.name == other.name and self.bases == other.bases
                and self.fields == other.fields and self.methods == other.methods
                and self.closed == other.closed and self.lent == other.lent)


class Routine:
    """A routine of a library, which belongs to no class."""

    def __init__(self, name, params=(), result=None, body=None):
        self.name = name
        self.params = params
        self.result = result
        self.body = body

    def __eq__(self, other):
        return (isinstance(other, Routine) and self.name == other.name and self.params == other.params
                and self.result == other.result and self.body == other.body)
