"""The exceptions of the package (point 3). Their fields may be any values, and are kept as they are."""


class OldError(ValueError):
    """The base of all exceptions of the package."""


class NoLibrary(OldError):
    """The arguments make no valid library."""

    def __init__(self, number, part, index):
        self.number = number
        self.part = part
        self.index = index


class NoClass(OldError):
    """There is no such class."""

    def __init__(self, name):
        self.name = name


class NoMember(OldError):
    """There is no such member."""

    def __init__(self, name):
        self.name = name


class NoTables(OldError):
    """A value is not the list of the tables of a class."""

    def __init__(self, index):
        self.index = index


class NoFields(OldError):
    """A value is no row of fields that can be asked for."""

    def __init__(self, index):
        self.index = index


class NoRoom(OldError):
    """New fields do not fit."""

    def __init__(self, size):
        self.size = size


class NoBody(OldError):
    """A statement of a body is invalid."""

    def __init__(self, where, at):
        self.where = where
        self.at = at


class NoClient(OldError):
    """A client is not valid with a library."""

    def __init__(self, number, part, index):
        self.number = number
        self.part = part
        self.index = index


class Lacks(OldError):
    """A library lacks what a client needs."""

    def __init__(self, need):
        self.need = need


class NoText(OldError):
    """A text cannot be read."""

    def __init__(self, at):
        self.at = at


class NoVersions(OldError):
    """A value is no row of versions."""

    def __init__(self, index):
        self.index = index


class NoVersion(OldError):
    """There is no version with this number."""

    def __init__(self, number):
        self.number = number


class NoPlace(OldError):
    """There is no such place in memory."""

    def __init__(self, place):
        self.place = place


class NoReference(OldError):
    """A place is no reference to a class."""

    def __init__(self, place):
        self.place = place


class NoNeed(OldError):
    """No client of a library can have this need."""

    def __init__(self, need):
        self.need = need


class NoNumber(OldError):
    """There is no client with this number."""

    def __init__(self, number):
        self.number = number


class NoPace(OldError):
    """A value is no number of statements for a turn."""

    def __init__(self, pace):
        self.pace = pace
