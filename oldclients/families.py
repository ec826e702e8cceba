"""What follows from the bases and methods of classes: ancestors, parts, last overrides (points 6, 7 and 9 to 12)."""

from oldclients.declared import Method


class Family:
    """Valid classes, each behind its bases, and what follows for them; all by the names of the classes.

    above: its ancestors, in order; walks: its walk; nears: its near part; own: its methods by their names;
    news: the names of the methods that it introduces; calls: its introducers; lasts: for each of these the
    class of its last override, None if there is none.
    """

    def __init__(self):
        self.classes = {}
        self.above = {}
        self.walks = {}
        self.nears = {}
        self.own = {}
        self.news = {}
        self.calls = {}
        self.lasts = {}

    def take_bases(self, item):
        """Take a class whose bases are valid, as far as these alone matter."""
        name = item.name
        self.above[name] = ancestors_of(self, item)
        self.walks[name] = walk_of(self, item)
        self.nears[name] = near_of(self, item)
        self.classes[name] = item

    def take_methods(self, item):
        """Take the methods of a class that was taken with its bases."""
        name = item.name
        self.own[name] = {method.name: method for method in item.methods}
        self.news[name] = introduced_by(self, item)
        self.calls[name] = introducers_of(self, name)
        self.lasts[name] = {(owner, method): last_override_of(self, name, owner, method)
                            for owner, method in self.calls[name]}

    def line(self, name):
        """Return the names of the ancestors of a class, in order, and its own."""
        return self.above[name] + [name]


def ancestors_of(family, item):
    """Return the ancestors of a class whose bases are in the family, in the order of the family."""
    found = {}
    for base, _ in item.bases:
        for name in family.line(base):
            found[name] = True
    return [name for name in family.classes if name in found]


def walk_of(family, item):
    """Return the walk of a class whose bases are in the family."""
    walk = []
    for base, kind in item.bases:
        steps = family.walks[base] + ([base] if kind == "shared" else [])
        walk = walk + [name for name in steps if name not in walk]
    return walk


def near_of(family, item):
    """Return the classes of the near part of a class whose bases are in the family."""
    near = [item.name]
    for base, kind in item.bases:
        if kind == "plain":
            near = near + family.nears[base]
    return near


def is_one_part(family, name, ancestor):
    """Tell whether an ancestor of a class is one part of its objects."""
    kinds = [kind for owner in family.line(name) for base, kind in family.classes[owner].bases if base == ancestor]
    return len(kinds) == 1 or "plain" not in kinds


def are_one_parts(family, name):
    """Tell whether each ancestor of a class is one part of its objects."""
    return all([is_one_part(family, name, ancestor) for ancestor in family.above[name]])


def forms_of(method):
    """Return the forms of the parameters of a method or routine, and that of its result."""
    return [form for _, form in method.params], method.result


def do_agree(member, other):
    """Tell whether two members of one name stand side by side, in a class and an ancestor, say."""
    for one in (member, other):
        if not isinstance(one, Method) or one.kind == "plain":
            return False
    return forms_of(member) == forms_of(other)


def do_names_agree(family, name):
    """Tell whether each name of a member of a class and its ancestors is declared as often as it may be."""
    known = {}
    for owner in family.line(name):
        item = family.classes[owner]
        for member in item.fields + item.methods:
            if member.name in known and not do_agree(member, known[member.name]):
                return False
            known[member.name] = member
    return True


def introduced_by(family, item):
    """Return the names of the methods that a class introduces, in its order."""
    known = [method for name in family.above[item.name] for method in family.own[name]]
    return [method.name for method in item.methods if method.kind != "plain" and method.name not in known]


def introducers_of(family, name):
    """Return the pairs (class, method) of what a class and its ancestors introduced, by the order of calls."""
    order = list(family.nears[name])
    for shared in family.walks[name]:
        order = order + [part for part in family.nears[shared] if part not in order]
    return [(owner, method) for owner in order for method in family.news[owner]]


def last_override_of(family, name, introducer, method):
    """Return the class of the last override in a class of what an ancestor or itself introduced, or None."""
    rows = [owner for owner in family.line(name)
            if method in family.own[owner] and introducer in family.line(owner)]
    # each class stands behind its ancestors, so only the last one can derive from all others
    last = rows[-1]
    if all([owner in family.line(last) for owner in rows]):
        return last
    return None


def is_bare_class(family, name):
    """Tell whether the method of some last override of a class has no body."""
    lasts = family.lasts[name]
    return any([family.own[lasts[owner, method]][method].body is None for owner, method in lasts])


def found_in(family, name, member, hidden):
    """Return the thing that a name means, seen from a class, with or without what is hidden; None if nothing."""
    for owner, method in family.calls[name]:
        if method == member and (hidden or family.own[owner][method].shown):
            return ("open", owner, member)
    for owner in family.line(name):
        item = family.classes[owner]
        fields = [field for field in item.fields if hidden or field.shown]
        plains = [method for method in item.methods if method.kind == "plain" and (hidden or method.shown)]
        if member in [field.name for field in fields]:
            return ("field", owner, member)
        if member in [method.name for method in plains]:
            return ("plain", owner, member)
    return None
