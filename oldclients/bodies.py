"""The check of the bodies of a library (point 27)."""

from oldclients.scripts import library_scripts
from oldclients.worlds import library_world


def check_bodies(library):
    """Raise NoBody for the first invalid body of a library, with the number of its first invalid statement."""
    library_scripts(library_world(library))
