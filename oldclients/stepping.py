"""The events of runs, and where two runs part (points 38 and 39)."""

from oldclients.compiler import world_with
from oldclients.engine import Machine
from oldclients.meaning import PlainRun
from oldclients.watching import Watch


def plain_events(resolved, library=None, *, most=1000):
    """Return the list of the events of a plain run."""
    return PlainRun(world_with(resolved, library), resolved.scripts, most).run()


def code_events(code, build, *, most=1000):
    """Return the list of the events of a run of code with a build."""
    classes = dict(build.classes)
    for name, *rest in code.classes:
        classes[name] = tuple(rest)
    watch = Watch(classes)
    machine = Machine(code, build, most, watch)
    machine.run()
    return watch.events + [("end", machine.ended)]


def out_of_step(resolved, code, build, *, most=1000):
    """Return the position of the first event of code that differs from that of the plain run, or None."""
    wanted = plain_events(resolved, build.library, most=most)
    found = code_events(code, build, most=most)
    for position, (one, other) in enumerate(zip(wanted, found)):
        if one != other:
            return position
    return None if len(wanted) == len(found) else min(len(wanted), len(found))
