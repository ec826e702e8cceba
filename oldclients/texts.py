"""Texts of libraries and clients (points 70 to 73)."""

from oldclients.clients import Client
from oldclients.libraries import Library
from oldclients.reading import read_classes, read_main, read_routines
from oldclients.showing import class_lines, main_lines, routine_lines, text_of
from oldclients.tokens import Reader


def show_library(library):
    """Return the text of a library."""
    lines = []
    for name in library.names():
        lines.extend(class_lines(library.item(name)))
    for routine in library.routines():
        lines.extend(routine_lines(routine))
    return text_of(lines)


def show_client(client):
    """Return the text of a client."""
    lines = []
    for item in client.classes:
        lines.extend(class_lines(item))
    return text_of(lines + main_lines(client))


def read_library(text):
    """Return the library of a text."""
    reader = Reader(text)
    classes = read_classes(reader)
    routines = read_routines(reader)
    reader.finish()
    return Library(classes, routines)


def read_client(text):
    """Return the client of a text."""
    reader = Reader(text)
    classes = read_classes(reader)
    variables, steps = read_main(reader)
    reader.finish()
    return Client(classes, variables, steps)
