"""Plain runs (point 30)."""

from oldclients.compiler import world_with
from oldclients.meaning import PlainRun
from oldclients.runs import told_of


def plain_run(resolved, library=None, *, most=1000):
    """Return the pair (said, end) of a run of a client with a library, by the meaning of the things."""
    return told_of(PlainRun(world_with(resolved, library), resolved.scripts, most).run())
