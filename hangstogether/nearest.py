"""The nearest cloth that can be woven with fewer shafts."""

from hangstogether.checks import check_cloth
from hangstogether.errors import ArgumentError, PaperError
from hangstogether.kinds import is_integer, is_number, is_row
from hangstogether.limits import MAX_NEAR, MAX_SHAFTS
from hangstogether.subsets import places_in


def _check_arguments(cloth, shafts):
    check_cloth(cloth)
    if len(cloth[0]) > MAX_NEAR:
        raise ArgumentError("size")
    if not is_number(shafts, 1, MAX_SHAFTS):
        raise ArgumentError("shafts")


def _on_one_shaft(cloth):
    """Return for each set of ends the fewest wrong crossings of theirs if they are put on one shaft."""
    return [_wrong_together(cloth, places_in(number)) for number in range(1 << len(cloth[0]))]


def _wrong_together(cloth, ends):
    above = [sum([row[end] for end in ends]) for row in cloth]
    return sum([min(count, len(ends) - count) for count in above])


def _parts_of(number):
    """Return all parts of a set that have its least member."""
    least, *others = places_in(number)
    parts = [1 << least]
    for place in others:
        parts = parts + [part + (1 << place) for part in parts]
    return parts


def _best_part(alone, before, number):
    """Return the entry of a set that is not empty, and the part of it that is put on the last shaft then."""
    return min([
        (alone[part] + before[number - part], part)
        for part in _parts_of(number) if before[number - part] is not None
    ])


def near_table(cloth, shafts):
    """Return for each number of shafts and each set of ends the fewest wrong crossings of the ends."""
    _check_arguments(cloth, shafts)
    alone = _on_one_shaft(cloth)
    table = [(0, *[None for _ in alone[1:]])]
    while len(table) <= shafts:
        table.append(_row_behind(alone, table[-1]))
    return tuple(table)


def _row_behind(alone, before):
    """Return the row for one shaft more."""
    return (0, *[_best_part(alone, before, number)[0] for number in range(1, len(alone))])


def nearest(cloth, shafts):
    """Return the fewest wrong crossings of all cloths that can be woven with so many shafts, and such a cloth."""
    table = near_table(cloth, shafts)
    alone = _on_one_shaft(cloth)
    number = len(alone) - 1
    groups = []
    for before in table[-2::-1]:
        # The empty set needs no further shaft.
        if number > 0:
            part = _best_part(alone, before, number)[1]
            groups.append(places_in(part))
            number -= part
    return table[-1][-1], tuple([_row_with(row, groups) for row in cloth])


def _row_with(row, groups):
    """Return the nearest row in which the ends of each group are equal."""
    sides = {}
    for ends in groups:
        above = sum([row[end] for end in ends])
        for end in ends:
            sides[end] = 1 if 2 * above > len(ends) else 0
    return tuple([sides[end] for end in range(len(row))])


def accept_near_table(cloth, shafts, table):
    """Raise PaperError unless a value is the table of a cloth."""
    _check_arguments(cloth, shafts)
    if not is_row(table, shafts + 1) or not all([_is_row_of_table(row, 1 << len(cloth[0])) for row in table]):
        raise PaperError("form")
    if table != near_table(cloth, shafts):
        raise PaperError("entry")


def _is_row_of_table(value, size):
    return is_row(value, size) and all([part is None or is_integer(part) for part in value])


def unlike_crossings(first, second):
    """Return how many crossings of two cloths of one size differ."""
    check_cloth(first)
    check_cloth(second)
    if len(first) != len(second) or len(first[0]) != len(second[0]):
        raise ArgumentError("size")
    return len([1 for row, other in zip(first, second) for part, wanted in zip(row, other) if part != wanted])
