"""Statements one behind the other, with jumps in the place of if and while (point 32)."""


def flat_rows(steps):
    """Return the list of the statements of a body, with ("if", a, row) for tests, and with ("goto", row)."""
    rows = []
    put_flat(steps, rows)
    return rows


def put_flat(steps, rows):
    """Put statements behind others; rows lead on to others by their numbers."""
    for step in steps:
        if step[0] == "if":
            put_if(step, rows)
        elif step[0] == "while":
            put_while(step, rows)
        else:
            rows.append(step)


def put_if(step, rows):
    """Put the test, the first steps, a row that leads behind all, and the other steps."""
    _, test, first, second = step
    head = len(rows)
    rows.append(())
    put_flat(first, rows)
    jump = len(rows)
    rows.append(())
    put_flat(second, rows)
    rows[head] = ("if", test, jump + 1)
    rows[jump] = ("goto", len(rows))


def put_while(step, rows):
    """Put the test, the steps, and a row that leads back to the test."""
    _, test, inner = step
    head = len(rows)
    rows.append(())
    put_flat(inner, rows)
    rows.append(("goto", head))
    rows[head] = ("if", test, len(rows))
