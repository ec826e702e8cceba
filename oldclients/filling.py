"""How fields are put into free bytes (points 50 to 53)."""

from oldclients.parts import rounded_up

BLOCK_SIZES = (8, 4, 2, 1)


def cut(begin, end):
    """Return the blocks (place, size) of a stretch of free bytes: always the greatest one that can begin there."""
    blocks = []
    while begin < end:
        size = max([size for size in BLOCK_SIZES if rounded_up(begin, size) == begin and begin + size <= end])
        blocks.append((begin, size))
        begin += size
    return blocks


def blocks_of(stretches):
    """Return the blocks of several stretches (begin, end)."""
    return [block for begin, end in stretches for block in cut(begin, end)]


def by_falling_sizes(sizes):
    """Return the indexes of some sizes, those of the largest ones first."""
    return sorted(list(range(len(sizes))), key=lambda index: -sizes[index])


class Blocks:
    """Free blocks, from which places for fields are taken; those for larger fields must be taken first."""

    def __init__(self, stretches):
        self.free = blocks_of(stretches)

    def take(self, size):
        """Return the place for a field of a size, which is free no longer; None if no block is so large."""
        fitting = [block for block in self.free if block[1] >= size]
        if not fitting:
            return None
        place, width = min(fitting, key=lambda block: block[1])
        others = [block for block in self.free if block[0] != place]
        self.free = others + cut(place + size, place + width)
        return place


def places_in(stretches, sizes):
    """Return the list of places at which fields of these sizes lie in free stretches, None if they do not fit."""
    blocks = Blocks(stretches)
    places = [0] * len(sizes)
    for index in by_falling_sizes(sizes):
        place = blocks.take(sizes[index])
        if place is None:
            return None
        places[index] = place
    return places


def least_row(start, sizes):
    """Return the pair (order, end) of fields of these sizes that lie one behind the other from a place on.

    The order is that of the indexes of the sizes with which the fields end as early as they can: behind a gap up
    to a multiple of the largest size they leave none, so as many bytes as possible are put into this gap.
    """
    if not sizes:
        return [], start
    gap_end = rounded_up(start, max(sizes))
    blocks = Blocks([(start, gap_end)])
    inside, behind = [], []
    for index in by_falling_sizes(sizes):
        place = blocks.take(sizes[index])
        if place is None:
            behind.append(index)
        else:
            inside.append((place, index))
    order = [index for _, index in sorted(inside)] + behind
    return order, gap_end + sum([sizes[index] for index in behind])
