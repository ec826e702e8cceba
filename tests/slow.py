"""The rules of points 6 to 18 once more, slowly, straight from the words of the document and lists of Class."""

SIZES = {"int1": 1, "int2": 2, "int4": 4, "int8": 8}


class Slow:
    """What the document says of a list of classes, each behind its bases."""

    def __init__(self, classes):
        self.classes = {item.name: item for item in classes}
        self.above = {name: [other for other in self.classes if self.does_derive(name, other)] for name in self.classes}

    def does_derive(self, name, ancestor):
        return any(base == ancestor or self.does_derive(base, ancestor) for base, _ in self.classes[name].bases)

    def derives(self, name, ancestor):
        return ancestor in self.above[name]

    def ancestors(self, name):
        return self.above[name]

    def family(self, name):
        return [name] + self.ancestors(name)

    def methods(self, name):
        return {method.name: method for method in self.classes[name].methods}

    def has_one_parts(self, name):
        for ancestor in self.ancestors(name):
            kinds = [dict(self.classes[owner].bases)[ancestor] for owner in self.family(name)
                     if ancestor in dict(self.classes[owner].bases)]
            if not (len(kinds) == 1 or all(kind == "shared" for kind in kinds)):
                return False
        return True

    def has_names(self, name):
        members = [member for owner in self.family(name)
                   for member in self.classes[owner].fields + self.classes[owner].methods]
        for member in members:
            same = [other for other in members if other.name == member.name]
            if len(same) > 1:
                if any(not hasattr(other, "kind") or other.kind == "plain" for other in same):
                    return False
                if len({(tuple(form for _, form in other.params), other.result) for other in same}) > 1:
                    return False
        return True

    def introduced(self, name):
        return [method.name for method in self.classes[name].methods if method.kind in ("open", "bare")
                and not any(method.name in self.methods(owner) for owner in self.ancestors(name))]

    def last_override(self, name, introducer, method):
        rows = [owner for owner in self.family(name) if method in self.methods(owner)
                and (owner == introducer or self.derives(owner, introducer))]
        for owner in rows:
            if all(owner == other or self.derives(owner, other) for other in rows):
                return owner
        return None

    def has_overrides(self, name):
        return all(self.last_override(name, owner, method) is not None
                   for owner in self.family(name) for method in self.introduced(owner))

    def wrong(self, name):
        """Return the part of NoLibrary for a class that is wrong at most in these parts."""
        if not self.has_one_parts(name):
            return "parts"
        if not self.has_names(name):
            return "names"
        return None if self.has_overrides(name) else "overrides"

    def walk(self, name):
        walk = []
        for base, kind in self.classes[name].bases:
            for other in self.walk(base) + [base] * (kind == "shared"):
                if other not in walk:
                    walk.append(other)
        return walk

    def plains(self, name):
        return [base for base, kind in self.classes[name].bases if kind == "plain"]

    def near(self, name):
        return [name] + [other for base in self.plains(name) for other in self.near(base)]

    def is_open(self, name):
        return any(self.introduced(owner) or any(kind == "shared" for _, kind in self.classes[owner].bases)
                   for owner in self.family(name))

    def introducers(self, name):
        order = self.near(name) + [part for shared in self.walk(name) for part in self.near(shared)]
        return [(owner, method) for owner in dict.fromkeys(order) for method in self.introduced(owner)]

    def is_bare(self, name):
        return any(self.methods(self.last_override(name, owner, method))[method].kind == "bare"
                   for owner, method in self.introducers(name))

    def found(self, name, member, hidden):
        for owner, method in self.introducers(name):
            if method == member and (hidden or self.methods(owner)[method].shown):
                return ("open", owner, member)
        for owner in self.family(name):
            for field in self.classes[owner].fields:
                if field.name == member and (hidden or field.shown):
                    return ("field", owner, member)
            for method in self.classes[owner].methods:
                if method.name == member and method.kind == "plain" and (hidden or method.shown):
                    return ("plain", owner, member)
        return None

    def primary(self, name):
        return next((base for base in self.plains(name) if self.is_open(base)), None)

    def alignment(self, name):
        return max([1] + [8] * self.is_open(name) + [self.alignment(base) for base in self.plains(name)]
                   + [SIZES.get(field.form, 8) for field in self.classes[name].fields])

    def laid(self, name):
        """Return the places of the plain bases and of the own fields, and the near size."""
        end = 8 if self.is_open(name) else 0
        bases, fields = {}, {}
        if self.primary(name) is not None:
            bases[self.primary(name)] = 0
            end = self.laid(self.primary(name))[2]
        for base in self.plains(name):
            if base not in bases:
                while end % self.alignment(base):
                    end += 1
                bases[base] = end
                end += self.laid(base)[2]
        for field in self.classes[name].fields:
            size = SIZES.get(field.form, 8)
            while end % size:
                end += 1
            fields[field.name] = end
            end += size
        return bases, fields, max(end, 1)

    def near_places(self, name, begin=0):
        bases = self.laid(name)[0]
        return [(name, begin)] + [row for base in self.plains(name)
                                  for row in self.near_places(base, begin + bases[base])]

    def whole(self, name):
        """Return the places of all parts, and the whole size."""
        places, end = self.near_places(name), self.laid(name)[2]
        for shared in self.walk(name):
            while end % 8:
                end += 1
            places += self.near_places(shared, end)
            end += self.laid(shared)[2]
        while end % (8 if self.walk(name) else self.alignment(name)):
            end += 1
        return places, end

    def field_places(self, name, begin=0):
        bases, fields, _ = self.laid(name)
        rows = [row for base in self.plains(name) for row in self.field_places(base, begin + bases[base])]
        return rows + [(name, field, begin + place) for field, place in fields.items()]

    def near_pointers(self, name, begin=0):
        if not self.is_open(name):
            return []
        rows = [(name, begin)]
        for base in self.plains(name):
            more = self.near_pointers(base, begin + self.laid(name)[0][base])
            rows += more[1:] if base == self.primary(name) else more
        return rows

    def pointers(self, name):
        places = dict(self.whole(name)[0])
        return self.near_pointers(name) + [row for shared in self.walk(name)
                                           for row in self.near_pointers(shared, places[shared])]

    def entries(self, name):
        above = [] if self.primary(name) is None else self.entries(self.primary(name))
        return above + [(name, method) for method in self.introduced(name)]

    def ways(self, name):
        above = [] if self.primary(name) is None else self.ways(self.primary(name))
        return above + [shared for shared in self.walk(name) if shared not in above]

    def reach(self, name, ancestor):
        near = dict(self.near_places(name))
        if ancestor in near:
            return ("place", near[ancestor])
        for shared in self.walk(name):
            inner = dict(self.near_places(shared))
            if ancestor in inner:
                return ("way", -3 - self.ways(name).index(shared), inner[ancestor])
        return None

    def tables(self, name):
        places = dict(self.whole(name)[0])
        tables = []
        for owner, at in self.pointers(name):
            ways = tuple((shared, places[shared] - at) for shared in self.ways(owner))
            rows = []
            for introducer, method in self.entries(owner):
                last = self.last_override(name, introducer, method)
                rows.append(((introducer, method), last, places[last] - at))
            tables.append((owner, at, ways, tuple(rows)))
        return tables
