"""The rules of points 28, 29 and 33 for classes of clients once more, slowly, from the words of the document."""

from tests.slow import SIZES, Slow


def forms(method):
    return tuple(form for _, form in method.params), method.result


class SlowClient(Slow):
    """The classes of a client with a library; what they override was found with another one, or with this one."""

    def __init__(self, library, mine, first=None):
        Slow.__init__(self, library + mine)
        self.mine = [item.name for item in mine]
        self.first = self if first is None else first

    def theirs(self, name):
        """Return the library classes among a class and its ancestors."""
        return [owner for owner in self.family(name) if owner not in self.mine]

    def may_name(self, owner, member):
        """Tell whether the client may name a member where it is declared."""
        if owner in self.mine:
            return True
        if not hasattr(member, "kind") or member.kind == "plain":
            return member.shown
        return any(self.methods(other)[member.name].shown for other in self.family(owner)
                   if member.name in Slow.introduced(self, other))

    def named(self, name):
        """Return the pairs (class, member) of what the client may name in a class and its ancestors."""
        return [(owner, member) for owner in self.family(name)
                for member in self.classes[owner].fields + self.classes[owner].methods if self.may_name(owner, member)]

    def has_names(self, name):
        rows = self.named(name)
        for _, member in rows:
            same = [other for _, other in rows if other.name == member.name]
            if len(same) > 1 and (any(getattr(other, "kind", "plain") == "plain" for other in same)
                                  or len({forms(other) for other in same}) > 1):
                return False
        return True

    def does_override(self, name, method):
        """Tell whether a class of the client overrides methods of this name of the library."""
        if method not in self.methods(name) or self.methods(name)[method].kind == "plain":
            return False
        return any(method in Slow.introduced(self.first, owner) and self.first.methods(owner)[method].shown
                   for owner in self.first.theirs(name))

    def introduced(self, name):
        if name not in self.mine:
            return Slow.introduced(self, name)
        if self.first is not self:
            return self.first.introduced(name)
        above = [member.name for owner, member in self.named(name) if owner != name]
        return [method.name for method in self.classes[name].methods
                if method.kind != "plain" and method.name not in above]

    def counts(self, owner, introducer, method):
        """Tell whether the method of a class, or of a heir, is one for what a class introduced."""
        if method not in self.methods(owner) or not (owner == introducer or self.derives(owner, introducer)):
            return False
        if owner not in self.mine or introducer in self.mine:
            return True
        return (self.does_override(owner, method)
                and forms(self.methods(owner)[method]) == forms(self.methods(introducer)[method]))

    def last_override(self, name, introducer, method):
        rows = [owner for owner in self.family(name) if self.counts(owner, introducer, method)]
        return next((owner for owner in rows
                     if all(owner == other or self.derives(owner, other) for other in rows)), None)

    def found_by_client(self, name, member):
        for owner, method in self.introducers(name):
            if method == member and (owner in self.mine or self.methods(owner)[method].shown):
                return ("open", owner, member)
        for owner, other in self.named(name):
            if other.name == member and not hasattr(other, "kind"):
                return ("field", owner, member)
            if other.name == member and other.kind == "plain":
                return ("plain", owner, member)
        return None

    def code(self, name):
        """Return the code of a class (33)."""
        kind, size = self.whole(name)
        places = dict(kind)
        tables = []
        for owner, at in self.pointers(name):
            entries = []
            for introducer, method in self.entries(owner):
                last = self.last_override(name, introducer, method)
                entries.append((("" if last is None else last, method), 0 if last is None else places[last] - at))
            tables.append((at, tuple(places[shared] - at for shared in self.ways(owner)), tuple(entries)))
        bases, fields, _ = self.laid(name)
        starts = (tuple((base, bases[base]) for base in self.plains(name)),
                  tuple((shared, places[shared]) for shared in self.walk(name)))
        rows = tuple((field.name, fields[field.name], SIZES.get(field.form, 8), field.start)
                     for field in self.classes[name].fields)
        return (name, size, tuple(kind), tuple(tables), starts, rows)

    def class_needs(self):
        """Return the needs of the classes of the client, without those of their bodies."""
        needs = set()
        for name in self.mine:
            item = self.classes[name]
            needs |= {("derive", base) for base, _ in item.bases if base not in self.mine}
            rows = [field.form for field in item.fields]
            for method in item.methods:
                rows += [form for _, form in method.params] + [method.result]
                for owner in self.theirs(name):
                    if self.does_override(name, method.name) and method.name in Slow.introduced(self, owner):
                        over = self.methods(owner)[method.name]
                        if over.shown:
                            needs.add(("open", owner, method.name, forms(over)[0], over.result or ""))
            needs |= {("class", form) for form in rows if form and form not in SIZES and form not in self.mine}
        return sorted(needs)
