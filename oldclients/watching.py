"""What watches a run of the machine (point 38)."""

from oldclients.parts import POINTER_SIZE

NO_FIELD = (-1, "", "")


class Deaf:
    """A watch that keeps nothing."""

    def made(self, name, start, size):
        """An object is made."""

    def touched(self, word, place, size):
        """Bytes are loaded or stored."""

    def called(self, place, where):
        """A method is called."""

    def did(self, name):
        """A routine is called."""

    def turned(self, place, name):
        """A reference is cast."""

    def told(self, number):
        """A number is said."""


class Watch:
    """A watch that keeps events; classes are the codes of all classes without their names, by these.

    parts has the number of the object by pairs (place, class), fields the tuples (object, class, field) by pairs
    (place, size), as kinds and codes say; so it does not matter what is in the bytes.
    """

    def __init__(self, classes):
        self.classes = classes
        self.events = []
        self.many = 0
        self.parts = {}
        self.fields = {}

    def made(self, name, start, size):
        """Keep that an object is made, and where its parts and fields lie."""
        _, kind, tables, _, _ = self.classes[name]
        spans = [(table[0], POINTER_SIZE) for table in tables]
        for owner, at in kind:
            self.parts.setdefault((start + at, owner), self.many)
            for field, place, width, _ in self.classes[owner][4]:
                spans.append((at + place, width))
                self.fields.setdefault((start + at + place, width), []).append((self.many, owner, field))
        self.many += 1
        self.events.append(("new", name, "clash") if do_clash(spans, size) else ("new", name))

    def touched(self, word, place, size):
        """Keep that bytes are loaded or stored."""
        fields = self.fields.get((place, size), [])
        owner = fields[0] if len(fields) == 1 else NO_FIELD
        self.events.append((word, *owner))

    def called(self, place, where):
        """Keep that a method is called."""
        owner, name = where
        self.events.append(("call", self.parts.get((place, owner), -1), owner, name))

    def did(self, name):
        """Keep that a routine is called."""
        self.events.append(("do", name))

    def turned(self, place, name):
        """Keep that a reference is cast."""
        self.events.append(("cast", self.parts.get((place, name), -1)))

    def told(self, number):
        """Keep that a number is said."""
        self.events.append(("say", number))


def do_clash(spans, size):
    """Tell whether some pairs (place, size) have a byte in common, or one that is not in a piece of a size."""
    end = 0
    for place, width in sorted(spans):
        if place < end:
            return True
        end = place + width
    return end > size
