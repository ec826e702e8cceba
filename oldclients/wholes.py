"""Numbers in bytes, the lowest byte first, with a sign (points 22 and 26)."""


def wrapped(number, size):
    """Return a number modulo so many bytes, with a sign."""
    limit = 1 << (8 * size)
    low = number & (limit - 1)
    return low - limit if low >= limit >> 1 else low


def number_at(cells, place, size):
    """Return the number in some of the bytes of a list."""
    total = 0
    for index in range(size):
        total += cells[place + index] << (8 * index)
    return wrapped(total, size)


def put_number(cells, place, size, number):
    """Put a number into some of the bytes of a list."""
    for index in range(size):
        cells[place + index] = (number >> (8 * index)) & 255
