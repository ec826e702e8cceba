"""Libraries, clients and later versions that are made by chance, always the same ones for a seed."""

from oldclients.bodies import check_bodies
from oldclients.clients import Client, Resolved
from oldclients.declared import Body, Class, Field, Method, Routine
from oldclients.errors import NoBody, NoClient, NoLibrary
from oldclients.libraries import Library

NUMBERS = ["int1", "int2", "int4", "int8"]
# all methods of one name have the same forms, in all libraries and clients
FORMS = {"f": ((), None), "g": ((("p", "int1"),), "int4"), "h": ((("p", "C0"),), "C0"), "k": ((("p", "int8"),), "int1")}
VARIABLES = (("i", "int1"), ("j", "int2"), ("m", "int8"))


def without(steps, at, count=0):
    """Return the pair (statements, number): without the one with a number, and the number behind them."""
    kept = []
    for step in steps:
        here, count = count, count + 1
        if step[0] in ("if", "while"):
            inner = []
            for rows in step[2:]:
                rows, count = without(rows, at, count)
                inner.append(rows)
            step = (step[0], step[1], *inner)
        if here != at:
            kept.append(step)
    return tuple(kept), count


class Chance:
    """Makes declarations by chance; random is a random.Random."""

    def __init__(self, random):
        self.random = random
        self.one = random.choice

    def often(self, many):
        return self.random.random() < many

    def operand(self, forms, form, classes):
        """Return an operand for a form, mostly one that fits."""
        if form in NUMBERS:
            names = [name for name, own in forms.items() if own in NUMBERS]
            return self.one(names + [0, 1, -1, 200, -70000, (1 << 63) - 1, -(1 << 63)])
        names = [name for name, own in forms.items() if own not in NUMBERS]
        return self.one(names + [None]) if names else None

    def step(self, forms, classes, routines, depth):
        """Return a statement, which may be invalid."""
        numbers = [name for name, form in forms.items() if form in NUMBERS]
        others = [name for name, form in forms.items() if form not in NUMBERS] or ["i"]
        word = self.one(["set", "add", "less", "new", "new", "new", "get", "get", "put", "put", "call", "call", "call",
                         "do", "cast", "say", "say", "if", "while"])
        x, y = self.one(others), self.one(others)
        members = self.members(forms.get(y), classes)
        if word == "set":
            name = self.one(list(forms))
            return ("set", name, self.operand(forms, forms[name], classes))
        if word in ("add", "less"):
            return (word, self.one(numbers), self.operand(forms, "int1", classes), self.operand(forms, "int1", classes))
        if word == "new":
            return ("new", x, self.one(sorted(classes)))
        if word == "get":
            return ("get", self.one(list(forms)), y, self.one(members["fields"]))
        if word == "put":
            field = self.one(members["fields"])
            form = members["forms"].get(field, "int1")
            return ("put", y, field, self.operand(forms, form, classes))
        if word == "call":
            method = self.one(members["methods"])
            args = tuple(self.operand(forms, form, classes) for _, form in FORMS.get(method, ((), None))[0])
            return ("call", self.one([None, *forms]) if self.often(0.5) else None, y, method, args)
        if word == "do":
            routine = self.one(routines)
            args = tuple(self.operand(forms, form, classes) for _, form in routine.params)
            return ("do", self.one([None, *forms]) if self.often(0.5) else None, routine.name, args)
        if word == "cast":
            return ("cast", x, y)
        if word == "say":
            return ("say", self.one(numbers))
        test = self.one(list(forms))
        if depth > 2:
            return ("say", self.one(numbers))
        inner = tuple(self.step(forms, classes, routines, depth + 1) for _ in range(self.one([0, 1, 2, 3])))
        if word == "if":
            return ("if", test, inner, tuple(self.step(forms, classes, routines, depth + 1)
                                             for _ in range(self.one([0, 1, 2]))))
        end = (("add", test, test, -1), ("less", test, 0, test)) if forms[test] in NUMBERS else (("set", test, None),)
        return ("while", test, inner + end)

    def members(self, name, classes):
        """Return the names of the fields and methods of a class and its ancestors, never none."""
        found = {"fields": ["z"], "methods": ["f"], "forms": {}}
        todo = [name]
        while todo:
            item = classes.get(todo.pop())
            if item is not None:
                todo += [base for base, _ in item.bases]
                found["fields"] += [field.name for field in item.fields] * 3
                found["forms"].update({field.name: field.form for field in item.fields})
                found["methods"] += [method.name for method in item.methods] * 3
        return found

    def body(self, forms, result, classes, routines, most):
        """Return a body, whose statements may be invalid; forms are those of the parameters and of this."""
        names = self.random.sample(sorted(classes), min(4, len(classes)))
        variables = VARIABLES + tuple((f"r{k}", name) for k, name in enumerate(names))
        known = {**forms, **dict(variables)}
        heirs = {name: [other for other in classes if name in line(other, classes)] for name in names}
        steps = [("new", f"r{k}", self.one(heirs[name])) for k, name in enumerate(names) if self.often(0.9)]
        steps += [self.step(known, classes, routines, 0) for _ in range(self.random.randrange(most))]
        if result is not None:
            steps.append(("return", self.operand(known, result, classes)))
        return Body(variables, tuple(steps))

    def method(self, name, owner, kind, classes, routines):
        """Return a method of a class."""
        params, result = FORMS.get(name, ((), None))
        body = None
        if kind != "bare":
            body = self.body({**dict(params), "this": owner}, result, classes, routines, 6)
        return Method(name, kind, params, result, body, self.often(0.8))

    def item(self, name, earlier, classes, shared, many):
        """Return a class behind others, with methods whose bodies are still empty; it may be invalid."""
        bases = self.random.sample(earlier, min(len(earlier), self.one(many)))
        kinds = ["plain", "shared"] if self.often(0.2) else ["shared" if shared else "plain"]
        fields = tuple(Field(f"{name.lower()}x{at}", self.one(NUMBERS + ["C0"]), 0, self.often(0.8))
                       for at in range(self.one([0, 1, 1, 2, 3])))
        fields = tuple(Field(field.name, field.form, self.one([0, 5, -3, 100]), field.shown)
                       if field.form in NUMBERS else field for field in fields)
        names = self.random.sample(sorted(FORMS), self.one([0, 0, 1, 1, 2]))
        methods = tuple(Method(method, "bare" if self.often(0.15) else "open", *FORMS[method]) for method in names)
        if self.often(0.25):
            methods += (Method(f"p{name.lower()}", "plain"),)
        return Class(name, tuple((base, self.one(kinds)) for base in bases), fields, methods)

    def filled(self, item, classes, routines):
        """Return a class with bodies for its methods."""
        methods = tuple(self.method(method.name, item.name, method.kind, classes, routines) for method in item.methods)
        return Class(item.name, item.bases, item.fields, methods, item.closed, item.lent)


def line(name, classes):
    """Return the names of a class and all its ancestors."""
    rows = [name]
    for base, _ in classes[name].bases:
        rows += line(base, classes)
    return rows


def empty(item):
    """Return a class whose methods have empty bodies, where they need some."""
    return Class(item.name, item.bases, item.fields, tuple(
        Method(method.name, method.kind, method.params, method.result, None if method.kind == "bare" else Body(),
               method.shown) for method in item.methods), item.closed, item.lent)


def is_library(classes, routines=()):
    """Return whether these make a library."""
    try:
        Library(classes, routines)
    except NoLibrary:
        return False
    return True


def repaired(classes, routines):
    """Return a library with these classes and routines, without their invalid statements."""
    while True:
        library = Library(classes, routines)
        try:
            check_bodies(library)
            return library
        except NoBody as error:
            (owner, name), at = error.where, error.at
        classes = [with_body(item, name, at) if item.name == owner else item for item in classes]
        routines = [Routine(row.name, row.params, row.result, Body(row.body.variables, without(row.body.steps, at)[0]))
                    if owner == "" and row.name == name else row for row in routines]


def with_new_bodies(chance, library):
    """Return a library with other bodies, which may use all that it has."""
    known = {item.name: empty(item) for item in items(library)}
    heads = library.routines()
    routines = [Routine(row.name, row.params, row.result, chance.body(dict(row.params), row.result, known, heads, 8))
                for row in heads]
    classes = []
    for item in items(library):
        bodies = {method.name: method.body for method in chance.filled(item, known, heads).methods}
        methods = tuple(Method(row.name, row.kind, row.params, row.result, bodies[row.name], row.shown)
                        for row in item.methods)
        classes.append(replaced(item, methods=methods))
    return repaired(classes, routines)


def with_body(item, name, at):
    """Return a class without a statement of a method."""
    methods = []
    for method in item.methods:
        if method.name == name:
            body = Body(method.body.variables, without(method.body.steps, at)[0])
            method = Method(name, method.kind, method.params, method.result, body, method.shown)
        methods.append(method)
    return Class(item.name, item.bases, item.fields, tuple(methods), item.closed, item.lent)


def some_library(chance, most):
    """Return a library with bodies."""
    classes, shared = [], chance.often(0.4)
    for number in range(most):
        for _ in range(4):
            item = chance.item(f"C{number}", [row.name for row in classes], classes, shared, [0, 1, 1, 2, 2, 3])
            if chance.often(0.15):
                item = Class(item.name, item.bases, item.fields, item.methods, chance.often(0.5), chance.often(0.7))
            if is_library([empty(row) for row in classes + [item]]):
                classes.append(item)
                break
        if not classes:
            classes.append(Class("C0"))
    known = {item.name: item for item in classes}
    heads = [Routine("ra", (("p", "C0"), ("q", "int2")), "int4"), Routine("rb", (), "C0"), Routine("rc", (), None)]
    routines = [Routine(row.name, row.params, row.result, chance.body(dict(row.params), row.result, known, heads, 6))
                for row in heads]
    return repaired([chance.filled(item, known, routines) for item in classes], routines)


def items(library):
    """Return the classes of a library."""
    return [library.item(name) for name in library.names()]


def some_client(chance, library):
    """Return a resolved client of a library."""
    classes = []
    for number in range(chance.one([0, 1, 2, 3])):
        for _ in range(6):
            names = library.names() + [item.name for item in classes]
            item = chance.item(f"c{number}", names, classes, chance.often(0.3), [0, 1, 1, 1, 2, 2])
            if is_client(Client([empty(row) for row in classes + [item]]), library):
                classes.append(item)
                break
    known = {item.name: item for item in items(library) + classes}
    filled = [chance.filled(item, known, library.routines()) for item in classes]
    body = chance.body({}, None, known, library.routines(), 25)
    client = Client(filled, body.variables, body.steps)
    while True:
        try:
            return Resolved(client, library)
        except NoBody as error:
            (owner, name), at = error.where, error.at
        steps = without(client.steps, at)[0] if owner == "" else client.steps
        client = Client([with_body(item, name, at) if item.name == owner else item for item in client.classes],
                        client.variables, steps)


def is_client(client, library):
    """Return whether the classes of a client are valid."""
    try:
        Resolved(client, library)
    except NoClient:
        return False
    return True


def replaced(item, **values):
    """Return a class with other arguments."""
    parts = {key: getattr(item, key) for key in ("name", "bases", "fields", "methods", "closed", "lent")}
    return Class(**{**parts, **values})


def changed_class(chance, item, names):
    """Return a class with some change."""
    fields, methods, bases = list(item.fields), list(item.methods), list(item.bases)
    word = chance.one(["hide", "field", "shown", "swap", "drop", "start", "method", "less", "mark", "base", "kind",
                       "form", "plain"])
    if word in ("field", "hide") and len(fields) < 8:
        field = Field("n" + item.name.lower(), chance.one(NUMBERS), 0, word == "field")
        if field.name not in [row.name for row in fields]:
            fields.insert(chance.random.randrange(len(fields) + 1), field)
    elif word == "shown" and fields:
        at = chance.random.randrange(len(fields))
        old = fields[at]
        fields[at] = Field(old.name, old.form, old.start, not old.shown)
    elif word == "swap":
        chance.random.shuffle(fields)
    elif word == "drop" and fields:
        fields.pop(chance.random.randrange(len(fields)))
    elif word == "form" and fields:
        at = chance.random.randrange(len(fields))
        fields[at] = Field(fields[at].name, chance.one(NUMBERS), 0, fields[at].shown)
    elif word == "start":
        fields = [Field(row.name, row.form, row.start if row.form not in NUMBERS else 7, row.shown) for row in fields]
    elif word == "method":
        name = chance.one(sorted(FORMS))
        if name not in [row.name for row in methods]:
            kind = chance.one(["open", "open", "bare"])
            method = Method(name, kind, *FORMS[name], None if kind == "bare" else Body(), chance.often(0.5))
            methods.insert(chance.random.randrange(len(methods) + 1), method)
    elif word == "plain":
        methods.append(Method("o" + item.name.lower(), "plain", (), None, Body()))
    elif word == "less" and methods:
        methods.pop(chance.random.randrange(len(methods)))
    elif word == "mark":
        return replaced(item, **{chance.one(["closed", "lent"]): chance.often(0.5)})
    elif word == "base" and names:
        name = chance.one(names)
        bases = [pair for pair in bases if pair[0] != name]
        if len(bases) == len(item.bases) and len(bases) < 4:
            bases.insert(chance.random.randrange(len(bases) + 1), (name, chance.one(["plain", "shared"])))
    elif word == "kind" and bases:
        at = chance.random.randrange(len(bases))
        bases[at] = (bases[at][0], "plain" if bases[at][1] == "shared" else "shared")
    return replaced(item, fields=tuple(fields), methods=tuple(methods), bases=tuple(bases))


def later_library(chance, library, most):
    """Return a later version of a library: some of its classes are changed, and it may have a new one."""
    classes = items(library)
    for _ in range(chance.random.randrange(1, most + 1)):
        at = chance.random.randrange(len(classes))
        names = [item.name for item in classes[:at]]
        rows = classes[:at] + [changed_class(chance, classes[at], names)] + classes[at + 1:]
        if chance.often(0.1):
            rows.insert(at, Class(f"N{len(classes)}", (), (Field("fresh", "int4"),)))
        if is_library(rows, library.routines()):
            classes = rows
    return repaired(classes, library.routines())
