"""Floats of a cloth that goes on without end."""

from hangstogether.checks import check_cloth
from hangstogether.errors import ArgumentError
from hangstogether.kinds import is_number
from hangstogether.limits import MAX_ENDS
from hangstogether.threads import threads_of


def floats(cloth):
    """Return all floats, thread by thread, those of a thread in the order of their places."""
    check_cloth(cloth)
    return tuple([told for thread in threads_of(cloth) for told in _floats_of(cloth, thread)])


def _sides_of(cloth, thread):
    """Return for each crossing of a thread, in order, whether it lies above there."""
    kind, number = thread
    if kind == "end":
        return [row[number] == 1 for row in cloth]
    return [part == 0 for part in cloth[number]]


def _floats_of(cloth, thread):
    sides = _sides_of(cloth, thread)
    # The crossing before the first one is the last one, as an index below 0 tells it.
    places = [place for place in range(len(sides)) if sides[place] != sides[place - 1]]
    if not places:
        return [(thread, 0, None, _name_of(sides[0]))]
    nexts = [*places[1:], places[0] + len(sides)]
    return [(thread, place, after - place, _name_of(sides[place])) for place, after in zip(places, nexts)]


def _name_of(above):
    return "face" if above else "back"


def longest(cloth):
    """Return the greatest length of a float, None if one never ends, and the first float that has it."""
    found = floats(cloth)
    lengths = [length for _, _, length, _ in found]
    greatest = None if None in lengths else max(lengths)
    return greatest, found[lengths.index(greatest)]


def too_long(cloth, most):
    """Return all floats that are longer than so many crossings or never end."""
    check_cloth(cloth)
    if not is_number(most, 1, MAX_ENDS):
        raise ArgumentError("most")
    return tuple([told for told in floats(cloth) if told[2] is None or told[2] > most])


def face_of(cloth):
    """Return the numbers of crossings of the repeat at which an end and at which a pick lies above."""
    check_cloth(cloth)
    ends = sum([sum(row) for row in cloth])
    return ends, len(cloth) * len(cloth[0]) - ends


def interlacings(cloth):
    """Return for each thread how many floats it has in a repeat if they end, and 0 otherwise."""
    check_cloth(cloth)
    found = [_floats_of(cloth, thread) for thread in threads_of(cloth)]
    return tuple([0 if told[0][2] is None else len(told) for told in found])
