"""Builds of libraries, and runs of code (points 34 to 37)."""

from oldclients.class_codes import class_code
from oldclients.emitting import body_code
from oldclients.engine import Machine
from oldclients.layouts import Layout
from oldclients.scripts import library_scripts
from oldclients.watching import Deaf
from oldclients.worlds import library_world


class Build:
    """A library that was compiled with its own numbers."""

    def __init__(self, library):
        world = library_world(library)
        scripts = library_scripts(world)
        layout = Layout(library)
        self.library = library
        self.classes = {name: class_code(world, layout, name)[1:] for name in library.names()}
        self.bodies = {script.where: body_code(script, layout) for script in scripts}

    def __eq__(self, other):
        return isinstance(other, Build) and self.library == other.library


def run_code(code, build, *, most=1000):
    """Return the pair (said, end) of a run of code with a build, on the machine."""
    machine = Machine(code, build, most, Deaf())
    machine.run()
    return machine.said, machine.ended
