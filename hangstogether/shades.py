"""Shades of grey, woven by units of which more or fewer ends lie above."""

from math import gcd

from hangstogether.blocks import checked_blocks, joined_units
from hangstogether.checks import are_rows_of_numbers
from hangstogether.errors import ArgumentError, TooMany
from hangstogether.kinds import is_number
from hangstogether.limits import MAX_ENDS, MAX_GREY, MAX_PICKS
from hangstogether.rounds import moved


def _check_ends(ends):
    if not is_number(ends, 1, MAX_ENDS):
        raise ArgumentError("ends")


def _check_unit(ends, step):
    _check_ends(ends)
    if not is_number(step, 0, ends - 1) or gcd(step, ends) != 1:
        raise ArgumentError("step")


def _check_picture(rows, most):
    if not are_rows_of_numbers(rows, most):
        raise ArgumentError("picture")


def units(ends, step):
    """Return the units of all shades, in order."""
    _check_unit(ends, step)
    return _units(ends, step)


def _units(ends, step):
    return tuple([_unit(ends, step, shade) for shade in range(ends + 1)])


def _unit(ends, step, shade):
    first = tuple([1 if end < shade else 0 for end in range(ends)])
    return tuple([moved(first, pick * step) for pick in range(ends)])


def shades_of(rows, ends):
    """Return for each grey of a picture the shade that is nearest to it."""
    _check_picture(rows, MAX_GREY)
    _check_ends(ends)
    return tuple([tuple([_nearest_shade(grey, ends) for grey in row]) for row in rows])


def _nearest_shade(grey, ends):
    _, shade = min([(abs(shade * MAX_GREY - grey * ends), shade) for shade in range(ends + 1)])
    return shade


def carried(rows, ends):
    """Return shades for a picture, where what a shade lacks is carried to the next grey of the row."""
    _check_picture(rows, MAX_GREY)
    _check_ends(ends)
    return tuple([_carried_along(row, ends) for row in rows])


def _carried_along(row, ends):
    lacks = 0
    shades = []
    for grey in row:
        wanted = min(max(grey + lacks, 0), MAX_GREY)
        shade = (wanted * ends + MAX_GREY // 2) // MAX_GREY
        lacks = grey + lacks - shade * MAX_GREY // ends
        shades.append(shade)
    return tuple(shades)


def shaded(shades, ends, step):
    """Return the cloth in which each shade of a picture is woven by its unit."""
    _check_unit(ends, step)
    _check_picture(shades, ends)
    if len(shades) * ends > MAX_PICKS or len(shades[0]) * ends > MAX_ENDS:
        raise TooMany("size")
    return joined_units(shades, _units(ends, step))


def measured(cloth, picks, ends):
    """Return for each block of so many picks and ends how many of its crossings have the end above."""
    return tuple([tuple([_ends_above(block) for block in row]) for row in checked_blocks(cloth, picks, ends)])


def _ends_above(block):
    return sum([sum(row) for row in block])
