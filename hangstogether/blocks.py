"""Cloths that are made of blocks."""

from hangstogether.checks import are_rows_of_numbers, are_like_cloths, check_cloth
from hangstogether.errors import ArgumentError, PaperError, TooMany
from hangstogether.kinds import begins, divides, is_number
from hangstogether.limits import MAX_ENDS, MAX_PICKS, MAX_UNITS


def _is_profile(value):
    return are_rows_of_numbers(value, MAX_UNITS - 1)


def _greatest(profile):
    return max([max(row) for row in profile])


def _size_of(cloth):
    return len(cloth), len(cloth[0])


def blocked(profile, units):
    """Return the cloth in which each number of a profile is replaced by the unit with this place."""
    if not _is_profile(profile):
        raise ArgumentError("profile")
    if not are_like_cloths(units, MAX_UNITS) or _greatest(profile) >= len(units):
        raise ArgumentError("units")
    picks, ends = _size_of(units[0])
    if len(profile) * picks > MAX_PICKS or len(profile[0]) * ends > MAX_ENDS:
        raise TooMany("size")
    return joined_units(profile, units)


def joined_units(profile, units):
    """Return the cloth of units of one size, put where their places stand in a profile."""
    picks = range(len(units[0]))
    return tuple([
        tuple([part for number in row for part in units[number][pick]]) for row in profile for pick in picks
    ])


def _blocks_of(cloth, picks, ends):
    """Return the rows of blocks of so many picks and ends."""
    tops = range(0, len(cloth), picks)
    lefts = range(0, len(cloth[0]), ends)
    return [[_block(cloth[top:top + picks], left, ends) for left in lefts] for top in tops]


def _block(rows, left, ends):
    return tuple([row[left:left + ends] for row in rows])


def checked_blocks(cloth, picks, ends):
    """Return the rows of blocks of so many picks and ends, and raise an error unless they part a cloth."""
    check_cloth(cloth)
    if not divides(picks, len(cloth)):
        raise ArgumentError("picks")
    if not divides(ends, len(cloth[0])):
        raise ArgumentError("ends")
    return _blocks_of(cloth, picks, ends)


def parted(cloth, picks, ends):
    """Return the profile and the units of the blocks of so many picks and ends."""
    blocks = checked_blocks(cloth, picks, ends)
    units = _unlike_ones(blocks)
    if len(units) > MAX_UNITS:
        raise TooMany("units")
    return _first_places(blocks, units), tuple(units)


def _unlike_ones(blocks):
    """Return the unlike blocks in the order in which they first come."""
    return list({block: True for row in blocks for block in row})


def _first_places(blocks, units):
    """Return for each block the place of the first unit that fits."""
    return tuple([tuple([units.index(block) for block in row]) for row in blocks])


def _check_units(cloth, units):
    check_cloth(cloth)
    if not are_like_cloths(units, MAX_UNITS):
        raise ArgumentError("units")
    picks, ends = _size_of(units[0])
    if len(cloth) % picks != 0 or len(cloth[0]) % ends != 0:
        raise ArgumentError("units")


def profile_of(cloth, units):
    """Return the pair of "profile" and the profile of a cloth, or "block" and the place of one that is no unit."""
    _check_units(cloth, units)
    blocks = _blocks_of(cloth, len(units[0]), len(units[0][0]))
    for number, row in enumerate(blocks):
        for column, block in enumerate(row):
            if block not in units:
                return "block", number, column
    return "profile", _first_places(blocks, units)


def accept_profile(cloth, units, told):
    """Raise PaperError unless a value is a right answer of profile_of."""
    _check_units(cloth, units)
    if begins(told, 2, "profile"):
        if not _gives(told[1], units, cloth):
            raise PaperError("profile")
    elif begins(told, 3, "block"):
        if not _is_no_unit(cloth, units, told[1], told[2]):
            raise PaperError("block")
    else:
        raise PaperError("form")


def _gives(profile, units, cloth):
    if not _is_profile(profile) or _greatest(profile) >= len(units):
        return False
    return joined_units(profile, units) == cloth


def _is_no_unit(cloth, units, number, column):
    blocks = _blocks_of(cloth, len(units[0]), len(units[0][0]))
    if not is_number(number, 0, len(blocks) - 1) or not is_number(column, 0, len(blocks[0]) - 1):
        return False
    return blocks[number][column] not in units


def shortest(cloth):
    """Return the least number of digits with which blocks tell a cloth, and the least size of such blocks."""
    check_cloth(cloth)
    sizes = [(picks, ends) for picks in _divisors(len(cloth)) for ends in _divisors(len(cloth[0]))]
    return min([(_digits(cloth, picks, ends), (picks, ends)) for picks, ends in sizes])


def _divisors(number):
    return [part for part in range(1, number + 1) if divides(part, number)]


def _digits(cloth, picks, ends):
    blocks = _blocks_of(cloth, picks, ends)
    return len(_unlike_ones(blocks)) * picks * ends + len(blocks) * len(blocks[0])
