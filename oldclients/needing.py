"""What clients need of a library, and what a library has for them (points 30 and 40)."""

from oldclients.families import named_in_library
from oldclients.forms import SIZES
from oldclients.uses import all_steps, form_of_field, gifts, members_used


def told(declared):
    """Return the forms of the parameters of a method or routine, and that of its result, "" if there is none."""
    return tuple([form for _, form in declared.params]), "" if declared.result is None else declared.result


def method_need(word, owner, method):
    """Return the need of a method of a class; word tells its kind."""
    return (word, owner, method.name, *told(method))


def routine_need(routine):
    """Return the need of a routine."""
    return ("routine", routine.name, *told(routine))


def class_offers(library, name):
    """Return the needs that a class of a library meets."""
    item = library.item(name)
    news = [method for owner, method in library.introducers(name) if owner == name]
    offers = [("class", name)] + [("reach", name, ancestor) for ancestor in library.ancestors(name)]
    if library.is_open(name):
        offers.append(("cast", name))
    if not item.lent and not library.is_bare(name):
        offers.append(("make", name))
    if not item.closed:
        offers.append(("derive", name))
    for field in item.fields:
        if field.shown:
            offers.append(("field", name, field.name, field.form))
    for method in item.methods:
        if method.shown and method.kind == "plain":
            offers.append(method_need("plain", name, method))
        if method.shown and method.name in news:
            offers.append(method_need("open", name, method))
    return offers


def offered(library):
    """Return the ascending list of all needs that a library meets."""
    offers = [offer for name in library.names() for offer in class_offers(library, name)]
    return sorted(offers + [routine_need(routine) for routine in library.routines()])


def declared_forms(declared):
    """Return the forms of the parameters, of the result and of the variables of a method of a client."""
    forms = [form for _, form in declared.params] + [declared.result]
    return forms if declared.body is None else forms + [form for _, form in declared.body.variables]


def all_forms(client):
    """Return all forms that a client names."""
    forms = [form for _, form in client.variables]
    for item in client.classes:
        forms = forms + [field.form for field in item.fields]
        for method in item.methods:
            forms = forms + declared_forms(method)
    return forms


def form_needs(resolved):
    """Return the needs of the classes of the library that a client names in its forms."""
    world = resolved.world
    return [("class", form) for form in all_forms(resolved.client)
            if form is not None and form not in SIZES and not world.is_clients(form)]


def base_needs(resolved):
    """Return the needs of the bases of the classes of a client, and of the methods that these override."""
    world = resolved.world
    needs = []
    for item in resolved.client.classes:
        needs = needs + [("derive", base) for base, _ in item.bases if not world.is_clients(base)]
        for owner, name in named_in_library(world.family, item.name):
            if name in world.family.overs[item.name]:
                needs.append(method_need("open", owner, world.method(owner, name)))
    return needs


def reach_needs(world, name, ancestor):
    """Return the needs for going from a reference to a class to the part of an ancestor of it, or of itself.

    No class of the library derives from one of the client, so that parts of the client's own classes need nothing.
    """
    starts = [owner for owner in world.line(name) if not world.is_clients(owner)] if world.is_clients(name) else [name]
    return [("reach", start, ancestor) for start in starts if start != ancestor and world.derives(start, ancestor)]


def member_need(scope, thing):
    """Return the need of a thing of the library."""
    word, owner, name = thing
    if word == "field":
        return (word, owner, name, form_of_field(scope, thing))
    return method_need(word, owner, scope.world.method(owner, name))


def used_needs(scope, step):
    """Return the needs of what a statement names beside members: a class to make or to cast from, a routine."""
    world = scope.world
    if step[0] == "new" and not world.is_clients(step[2]):
        return [("make", step[2])]
    if step[0] == "cast" and not world.is_clients(scope.forms[step[2]]):
        return [("cast", scope.forms[step[2]])]
    if step[0] == "do":
        return [routine_need(world.routine(step[2]))]
    return []


def step_needs(scope, step):
    """Return the needs of a statement, without those inside of it."""
    needs = used_needs(scope, step)
    for name, ancestor in gifts(scope, step):
        needs = needs + reach_needs(scope.world, name, ancestor)
    for name, thing in members_used(scope, step):
        needs = needs + reach_needs(scope.world, name, thing[1])
        if not scope.world.is_clients(thing[1]):
            needs.append(member_need(scope, thing))
    return needs


def all_needs(resolved):
    """Return the ascending list of the needs of a client, each once."""
    needs = form_needs(resolved) + base_needs(resolved)
    for script in resolved.scripts:
        for step in all_steps(script.steps):
            needs = needs + step_needs(script.scope, step)
    return sorted(set(needs))
