"""Endless cloths that are shifted, pieces of them, and cloths put beside one another."""

from hangstogether.checks import check_cloth
from hangstogether.errors import ArgumentError, TooMany
from hangstogether.kinds import is_integer, is_number
from hangstogether.limits import MAX_ENDS, MAX_PICKS
from hangstogether.rounds import least_repeat_of, moved_cloth


def shifted(cloth, picks, ends):
    """Return the cloth that is seen when one begins so many picks and ends later."""
    check_cloth(cloth)
    if not is_integer(picks) or not is_integer(ends):
        raise ArgumentError("shift")
    return moved_cloth(cloth, -picks, -ends)


def repeats(cloth):
    """Return all numbers of picks and ends by which a cloth is shifted onto itself, in ascending order."""
    check_cloth(cloth)
    shifts = [(picks, ends) for picks in range(len(cloth)) for ends in range(len(cloth[0]))]
    return tuple([(picks, ends) for picks, ends in shifts if moved_cloth(cloth, -picks, -ends) == cloth])


def least_repeat(cloth):
    """Return the fewest picks and ends whose straight repeats make a cloth."""
    check_cloth(cloth)
    return least_repeat_of(cloth)


def lattice(cloth):
    """Return the ends, and the picks with the ends beside them, that make all shifts of a cloth onto itself."""
    found = repeats(cloth)
    ends = min([shift[1] for shift in found if shift[0] == 0 and shift[1] > 0], default=len(cloth[0]))
    picks, aside = min([shift for shift in found if shift[0] > 0], default=(len(cloth), 0))
    return ends, picks, aside


def piece(cloth, pick, end, picks, ends):
    """Return the piece that begins at a pick and an end, with so many picks and ends."""
    check_cloth(cloth)
    if not is_integer(pick) or not is_integer(end):
        raise ArgumentError("place")
    if not is_number(picks, 1, MAX_PICKS) or not is_number(ends, 1, MAX_ENDS):
        raise ArgumentError("size")
    return _piece(cloth, pick, end, picks, ends)


def _piece(cloth, pick, end, picks, ends):
    rows = [cloth[(pick + further) % len(cloth)] for further in range(picks)]
    return tuple([tuple([row[(end + further) % len(row)] for further in range(ends)]) for row in rows])


def _check_both(first, second):
    check_cloth(first)
    check_cloth(second)


def same_endless(first, second):
    """Tell whether two cloths that go on without end are the same."""
    _check_both(first, second)
    return least_repeat_of(first) == least_repeat_of(second)


def found_at(cloth, pattern):
    """Return all places of a repeat at which another cloth is found as a piece, in ascending order."""
    _check_both(cloth, pattern)
    picks, ends = len(pattern), len(pattern[0])
    places = [(pick, end) for pick in range(len(cloth)) for end in range(len(cloth[0]))]
    return tuple([(pick, end) for pick, end in places if _piece(cloth, pick, end, picks, ends) == pattern])


def beside(first, second):
    """Return the cloth of two cloths, the ends of the second one behind those of the first one."""
    _check_both(first, second)
    if len(first) != len(second):
        raise ArgumentError("picks")
    if len(first[0]) + len(second[0]) > MAX_ENDS:
        raise TooMany("ends")
    return tuple([row + other for row, other in zip(first, second)])


def behind(first, second):
    """Return the cloth of two cloths, the picks of the second one behind those of the first one."""
    _check_both(first, second)
    if len(first[0]) != len(second[0]):
        raise ArgumentError("ends")
    if len(first) + len(second) > MAX_PICKS:
        raise TooMany("picks")
    return first + second
