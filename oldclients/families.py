"""What follows from the bases and methods of classes: ancestors, parts, last overrides (points 6, 7 and 9 to 12)."""

from oldclients.declared import Method


class Family:
    """Valid classes, each behind its bases, and what follows for them; all by the names of the classes.

    above: its ancestors, in order; walks: its walk; nears: its near part; own: its methods by their names;
    news: the names of the methods that it introduces; calls: its introducers; lasts: for each of these the
    class of its last override, None if there is none. overs has the classes of a client alone (28): the names
    of the methods by which each of them overrides those of the library.
    """

    def __init__(self):
        self.classes = {}
        self.above = {}
        self.walks = {}
        self.nears = {}
        self.own = {}
        self.news = {}
        self.overs = {}
        self.calls = {}
        self.lasts = {}

    def copied(self):
        """Return a family of the same classes, to which others can be added."""
        other = Family()
        other.classes = dict(self.classes)
        other.above = dict(self.above)
        other.walks = dict(self.walks)
        other.nears = dict(self.nears)
        other.own = dict(self.own)
        other.news = dict(self.news)
        other.overs = dict(self.overs)
        other.calls = dict(self.calls)
        other.lasts = dict(self.lasts)
        return other

    def take_bases(self, item):
        """Take a class whose bases are valid, as far as these alone matter."""
        name = item.name
        self.above[name] = ancestors_of(self, item)
        self.walks[name] = walk_of(self, item)
        self.nears[name] = near_of(self, item)
        self.classes[name] = item

    def take_methods(self, item, news):
        """Take the methods of a class that was taken with its bases, and that introduces those of these names."""
        name = item.name
        self.own[name] = {method.name: method for method in item.methods}
        self.news[name] = news
        self.calls[name] = introducers_of(self, name)
        self.lasts[name] = {(owner, method): last_override_of(self, name, owner, method)
                            for owner, method in self.calls[name]}

    def line(self, name):
        """Return the names of the ancestors of a class, in order, and its own."""
        return self.above[name] + [name]

    def has_table(self, name):
        """Tell whether a class is open: whether it has a shared ancestor, or a method that was introduced."""
        return len(self.walks[name]) > 0 or len(self.calls[name]) > 0


def ancestors_of(family, item):
    """Return the ancestors of a class whose bases are in the family, in the order of the family."""
    found = {}
    for base, _ in item.bases:
        for name in family.line(base):
            found[name] = True
    return [name for name in family.classes if name in found]


def walk_of(family, item):
    """Return the walk of a class whose bases are in the family."""
    walk = []
    for base, kind in item.bases:
        steps = family.walks[base] + ([base] if kind == "shared" else [])
        walk = walk + [name for name in steps if name not in walk]
    return walk


def near_of(family, item):
    """Return the classes of the near part of a class whose bases are in the family."""
    near = [item.name]
    for base, kind in item.bases:
        if kind == "plain":
            near = near + family.nears[base]
    return near


def is_one_part(family, name, ancestor):
    """Tell whether an ancestor of a class is one part of its objects."""
    kinds = [kind for owner in family.line(name) for base, kind in family.classes[owner].bases if base == ancestor]
    return len(kinds) == 1 or "plain" not in kinds


def are_one_parts(family, name):
    """Tell whether each ancestor of a class is one part of its objects."""
    return all([is_one_part(family, name, ancestor) for ancestor in family.above[name]])


def forms_of(method):
    """Return the forms of the parameters of a method or routine, and that of its result."""
    return [form for _, form in method.params], method.result


def do_agree(member, other):
    """Tell whether two members of one name stand side by side, in a class and an ancestor, say."""
    for one in (member, other):
        if not isinstance(one, Method) or one.kind == "plain":
            return False
    return forms_of(member) == forms_of(other)


def members_of(family, owner, hidden):
    """Return the list of the members of a class whose names count: all, or those that a client may name."""
    item = family.classes[owner]
    if hidden or owner in family.overs:
        return list(item.fields + item.methods)
    # the mark of a method that was introduced is the one where it was introduced
    methods = [method for method in item.methods if method.kind == "plain" or method.name in family.news[owner]]
    return [member for member in [*item.fields, *methods] if member.shown]


def do_names_agree(family, name, hidden):
    """Tell whether each name that counts in a class and its ancestors is declared as often as it may be."""
    known = {}
    for owner in family.line(name):
        for member in members_of(family, owner, hidden):
            if member.name in known and not do_agree(member, known[member.name]):
                return False
            known[member.name] = member
    return True


def introduced_by(family, item, hidden):
    """Return the names of the methods that a class introduces, in its order, by the names that count."""
    known = [member.name for owner in family.above[item.name] for member in members_of(family, owner, hidden)]
    return [method.name for method in item.methods if method.kind != "plain" and method.name not in known]


def named_in_library(family, name):
    """Return the pairs (introducer, method) of the library that clients may name in the ancestors of a class."""
    return [(owner, method) for owner in family.above[name] if owner not in family.overs
            for method in family.news[owner] if family.own[owner][method].shown]


def overriding(family, item):
    """Return the names of the methods by which a class of a client overrides those of the library."""
    known = [method for _, method in named_in_library(family, item.name)]
    return [method.name for method in item.methods if method.kind != "plain" and method.name in known]


def introducers_of(family, name):
    """Return the pairs (class, method) of what a class and its ancestors introduced, by the order of calls."""
    order = list(family.nears[name])
    for shared in family.walks[name]:
        order = order + [part for part in family.nears[shared] if part not in order]
    return [(owner, method) for owner in order for method in family.news[owner]]


def does_override(family, owner, introducer, method):
    """Tell whether a method of a class counts for what the class itself or another one introduced."""
    if method not in family.own[owner] or introducer not in family.line(owner):
        return False
    if owner not in family.overs or introducer in family.overs:
        return True
    return (method in family.overs[owner]
            and forms_of(family.own[owner][method]) == forms_of(family.own[introducer][method]))


def last_override_of(family, name, introducer, method):
    """Return the class of the last override in a class of what an ancestor or itself introduced, or None."""
    rows = [owner for owner in family.line(name) if does_override(family, owner, introducer, method)]
    # each class stands behind its ancestors, so only the last one can derive from all others
    last = rows[-1]
    if all([owner in family.line(last) for owner in rows]):
        return last
    return None


def is_bare_class(family, name):
    """Tell whether the method of some last override of a class has no body."""
    lasts = family.lasts[name]
    return any([family.own[lasts[owner, method]][method].body is None for owner, method in lasts])


def may_name(family, owner, member, hidden):
    """Tell whether a member may be named: it is shown, or what is hidden counts, or the client itself has it."""
    return hidden or member.shown or owner in family.overs


def found_in(family, name, member, hidden):
    """Return the thing that a name means, seen from a class, with or without what is hidden; None if nothing."""
    for owner, method in family.calls[name]:
        if method == member and may_name(family, owner, family.own[owner][method], hidden):
            return ("open", owner, member)
    for owner in family.line(name):
        item = family.classes[owner]
        fields = [field for field in item.fields if may_name(family, owner, field, hidden)]
        plains = [method for method in item.methods
                  if method.kind == "plain" and may_name(family, owner, method, hidden)]
        if member in [field.name for field in fields]:
            return ("field", owner, member)
        if member in [method.name for method in plains]:
            return ("plain", owner, member)
    return None
