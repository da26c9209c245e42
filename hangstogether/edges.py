"""The edges of a piece that is woven with several wefts."""

from hangstogether.checks import check_cloth
from hangstogether.errors import ArgumentError, PaperError, TooMany
from hangstogether.kinds import is_integer, is_number, is_row
from hangstogether.limits import MAX_ENDS, MAX_PICKS, MAX_WEFTS


def _check_wefts(cloth, wefts):
    check_cloth(cloth)
    if not is_row(wefts, len(cloth)) or not all([is_number(weft, 0, MAX_WEFTS - 1) for weft in wefts]):
        raise ArgumentError("wefts")


def _check_starts(cloth, wefts, starts):
    _check_wefts(cloth, wefts)
    if not _are_starts(wefts, starts):
        raise ArgumentError("starts")


def _are_starts(wefts, value):
    return is_row(value, len(_used(wefts))) and all([is_number(side, 0, 1) for side in value])


def _used(wefts):
    """Return the wefts that are used, in ascending order."""
    return sorted(set(wefts))


def _loose_turns_of(cloth, wefts, weft, start):
    """Return the loose turns of one weft that starts at a side."""
    picks = [pick for pick, other in enumerate(wefts) if other == weft]
    turns = [
        (weft, pick, behind, 1 - start if place % 2 == 0 else start)
        for place, (pick, behind) in enumerate(zip(picks, picks[1:]))
    ]
    return [turn for turn in turns if _is_loose(cloth, turn)]


def _is_loose(cloth, turn):
    """Tell whether the outermost end lies on the same side of both picks."""
    _, pick, behind, side = turn
    end = 0 if side == 0 else len(cloth[0]) - 1
    return cloth[pick][end] == cloth[behind][end]


def loose_turns(cloth, wefts, starts):
    """Return all loose turns, weft by weft."""
    _check_starts(cloth, wefts, starts)
    return tuple(_all_loose_turns(cloth, wefts, starts))


def _all_loose_turns(cloth, wefts, starts):
    pairs = list(zip(_used(wefts), starts))
    return [turn for weft, start in pairs for turn in _loose_turns_of(cloth, wefts, weft, start)]


def best_starts(cloth, wefts):
    """Return the fewest loose turns with any starts, and the least starts that have so few."""
    _check_wefts(cloth, wefts)
    # No weft changes the turns of another one.
    found = [
        min([(len(_loose_turns_of(cloth, wefts, weft, start)), start) for start in (0, 1)]) for weft in _used(wefts)
    ]
    return sum([count for count, _ in found]), tuple([start for _, start in found])


def accept_starts(cloth, wefts, told):
    """Raise PaperError unless a value is a pair of the fewest loose turns and starts that have so few."""
    _check_wefts(cloth, wefts)
    if not is_row(told, 2) or not is_integer(told[0]):
        raise PaperError("form")
    number, starts = told
    if not _are_starts(wefts, starts):
        raise PaperError("starts")
    if number != len(_all_loose_turns(cloth, wefts, starts)):
        raise PaperError("turns")
    if number != best_starts(cloth, wefts)[0]:
        raise PaperError("fewest")


def with_floating(cloth, wefts, starts):
    """Return a piece with one end more at each side, so that no turn is loose."""
    _check_starts(cloth, wefts, starts)
    if len(cloth[0]) + 2 > MAX_ENDS:
        raise TooMany("ends")
    sides = dict(zip(_used(wefts), starts))
    rows = []
    for row, weft in zip(cloth, wefts):
        # The pick passes below the end at the side where it goes in, and above the other one.
        side = sides[weft]
        rows.append((1 - side, *row, side))
        sides[weft] = 1 - side
    return tuple(rows)


def joins(wefts):
    """Return how many picks have another weft than the pick before them."""
    if not isinstance(wefts, tuple) or len(wefts) > MAX_PICKS or not all([is_integer(weft) for weft in wefts]):
        raise ArgumentError("wefts")
    return len([1 for before, weft in zip(wefts, wefts[1:]) if weft != before])
