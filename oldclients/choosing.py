"""Some out of several (points 53, 61 and 63)."""


def subsets(many):
    """Return all ascending lists of numbers below one number, the empty one first."""
    return [[number for number in range(many) if mark >> number & 1] for mark in range(1 << many)]
