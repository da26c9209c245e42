"""Crossings, the threads that they show, and colours."""

from hangstogether.kinds import is_number, is_row
from hangstogether.limits import MAX_NAME


def is_colour(value):
    """Tell whether a value is a colour."""
    return isinstance(value, str) and 1 <= len(value) <= MAX_NAME


def are_colours(value, count):
    """Tell whether a value is a tuple of so many colours."""
    return is_row(value, count) and all([is_colour(part) for part in value])


def is_crossing(cloth, value):
    """Tell whether a value is a crossing of a cloth."""
    return is_crossing_in(len(cloth), len(cloth[0]), value)


def is_crossing_in(picks, ends, value):
    """Tell whether a value is a crossing of a cloth with so many picks and ends."""
    if not is_row(value, 2):
        return False
    return is_number(value[0], 0, picks - 1) and is_number(value[1], 0, ends - 1)


def shown_at(cloth, crossing):
    """Return the thread that a crossing shows."""
    pick, end = crossing
    return ("end", end) if cloth[pick][end] == 1 else ("pick", pick)


def exchanged_at(cloth, crossings):
    """Return a cloth with the other thread above at some crossings."""
    rows = [list(row) for row in cloth]
    for pick, end in crossings:
        rows[pick][end] = 1 - rows[pick][end]
    return tuple([tuple(row) for row in rows])


def crossings_that_show(cloth, thread):
    """Return the crossings that show a thread, in order."""
    kind, number = thread
    if kind == "end":
        return [(pick, number) for pick, row in enumerate(cloth) if row[number] == 1]
    return [(number, end) for end, part in enumerate(cloth[number]) if part == 0]
