"""Cloths that lie one above the other in one cloth."""

from hangstogether.checks import are_like_cloths, check_cloth
from hangstogether.crossings import exchanged_at, is_crossing_in
from hangstogether.errors import ArgumentError, TooMany
from hangstogether.kinds import divides, is_number
from hangstogether.limits import MAX_ENDS, MAX_PICKS, MAX_STACK


def _check_cloths(cloths):
    if not are_like_cloths(cloths, MAX_STACK):
        raise ArgumentError("cloths")


def _size_of_stack(cloths):
    return len(cloths) * len(cloths[0]), len(cloths) * len(cloths[0][0])


def _check_size(cloths):
    picks, ends = _size_of_stack(cloths)
    if picks > MAX_PICKS or ends > MAX_ENDS:
        raise TooMany("size")


def stacked(cloths):
    """Return the cloth in which some cloths lie one above the other, the first one on top."""
    _check_cloths(cloths)
    _check_size(cloths)
    return _stack(cloths)


def _stack(cloths):
    picks, ends = _size_of_stack(cloths)
    return tuple([tuple([_part_of_stack(cloths, pick, end) for end in range(ends)]) for pick in range(picks)])


def _part_of_stack(cloths, pick, end):
    count = len(cloths)
    lies_in, stands_in = pick % count, end % count
    if lies_in == stands_in:
        return cloths[lies_in][pick // count][end // count]
    return 1 if stands_in < lies_in else 0


def stitched(cloths, stitches):
    """Return the cloth of cloths one above the other, with the other thread above at the stitches."""
    _check_cloths(cloths)
    if not _are_stitches(cloths, stitches):
        raise ArgumentError("stitches")
    _check_size(cloths)
    return exchanged_at(_stack(cloths), stitches)


def _are_stitches(cloths, value):
    if not isinstance(value, tuple):
        return False
    picks, ends = _size_of_stack(cloths)
    if not all([is_crossing_in(picks, ends, part) for part in value]):
        return False
    if not all([_joins_unlike(len(cloths), pick, end) for pick, end in value]):
        return False
    return all([first < second for first, second in zip(value, value[1:])])


def _joins_unlike(count, pick, end):
    return pick % count != end % count


def unstacked(cloth, count):
    """Return the cloths and the stitches of which a cloth of so many cloths is made."""
    check_cloth(cloth)
    if not is_number(count, 1, MAX_STACK) or not _parts(cloth, count):
        raise ArgumentError("count")
    return _taken_apart(cloth, count)


def _parts(cloth, count):
    return divides(count, len(cloth)) and divides(count, len(cloth[0]))


def _taken_apart(cloth, count):
    cloths = tuple([tuple([row[place::count] for row in cloth[place::count]]) for place in range(count)])
    plain = _stack(cloths)
    stitches = [
        (pick, end) for pick, row in enumerate(cloth) for end, part in enumerate(row) if part != plain[pick][end]
    ]
    return cloths, tuple(stitches)


def loosest(cloth):
    """Return the greatest number of cloths of which a cloth is made without stitches."""
    check_cloth(cloth)
    counts = [count for count in range(1, MAX_STACK + 1) if _parts(cloth, count)]
    return max([count for count in counts if _taken_apart(cloth, count)[1] == ()])


def folded(cloth):
    """Return what becomes of a cloth that is folded in the middle, with its second half below."""
    check_cloth(cloth)
    if len(cloth[0]) % 2 != 0 or 2 * len(cloth) > MAX_PICKS:
        raise ArgumentError("cloth")
    middle = len(cloth[0]) // 2
    above = tuple([row[:middle] for row in cloth])
    below = tuple([tuple([1 - part for part in row[middle:][::-1]]) for row in cloth])
    return _stack((above, below))
