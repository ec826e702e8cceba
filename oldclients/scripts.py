"""Bodies whose statements were checked, with things in the place of member names (points 26, 27 and 29)."""

from oldclients.errors import NoBody
from oldclients.forms import meaning_of
from oldclients.statements import Scope, resolved_statement

MOST_STATEMENTS = 40
MOST_DEPTH = 6
MAIN = ("", "")


class Script:
    """A body that was checked: its place, its parameters with what their forms mean, what it sees, its statements.

    The statements have things in the place of member names.
    """

    def __init__(self, where, params, scope, steps):
        self.where = where
        self.params = params
        self.scope = scope
        self.steps = steps


class Checker:
    """Goes through the statements of one body, and numbers them as they are written."""

    def __init__(self, where, scope):
        self.where = where
        self.scope = scope
        self.count = 0

    def resolved(self, steps, depth):
        """Return a tuple of statements with things; raise NoBody with the number of the first invalid one."""
        return tuple([self.resolved_one(step, depth) for step in steps])

    def resolved_one(self, step, depth):
        """Return a statement with things, and all that are inside of it."""
        number = self.count
        self.count += 1
        if number >= MOST_STATEMENTS or depth > MOST_DEPTH:
            raise NoBody(self.where, number)
        statement = resolved_statement(self.scope, step)
        if statement is None:
            raise NoBody(self.where, number)
        if statement[0] not in ("if", "while"):
            return statement
        inner = [self.resolved(steps, depth + 1) for steps in statement[2:]]
        return (statement[0], statement[1], *inner)


def script_of(world, where, owner, declared):
    """Return the script of a method of a class, or of a routine (owner is None); raise NoBody if it is invalid."""
    forms = {} if owner is None else {"this": owner}
    for name, form in declared.params + declared.body.variables:
        forms[name] = meaning_of(form)
    scope = Scope(world, forms, meaning_of(declared.result))
    steps = Checker(where, scope).resolved(declared.body.steps, 0)
    return Script(where, tuple([(name, forms[name]) for name, _ in declared.params]), scope, steps)


def main_script(world, client):
    """Return the script of the main routine of a client; raise NoBody if it is invalid."""
    scope = Scope(world, {name: meaning_of(form) for name, form in client.variables}, None)
    return Script(MAIN, (), scope, Checker(MAIN, scope).resolved(client.steps, 0))


def method_scripts(world, names):
    """Return the scripts of the methods with bodies of classes with these names, in order."""
    return [script_of(world, (name, method.name), name, method)
            for name in names for method in world.item(name).methods if method.body is not None]


def library_scripts(world):
    """Return the scripts of all bodies of the library of a world: of its methods by classes, then of its routines."""
    scripts = method_scripts(world, world.library.names())
    return scripts + [script_of(world, ("", routine.name), None, routine) for routine in world.library.routines()]


def client_scripts(world, client):
    """Return the scripts of all bodies of a client, class by class, main last."""
    return method_scripts(world, [item.name for item in client.classes]) + [main_script(world, client)]
