"""What plain runs and the machine have in common (points 30 and 37)."""

from oldclients.errors import OldError

MOST_CALLS = 100


class RunEnds(OldError):
    """A run ends; it is caught where the run goes on otherwise."""

    def __init__(self, why):
        self.why = why


def told_of(events):
    """Return the pair (said, end) of the events of a run."""
    return [event[1] for event in events if event[0] == "say"], events[-1][1]
