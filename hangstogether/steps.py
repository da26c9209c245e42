"""The steps of a weaver's feet from treadle to treadle."""

from hangstogether.checks import check_draft
from hangstogether.errors import ArgumentError, PaperError
from hangstogether.kinds import is_integer, is_row, is_table
from hangstogether.onward import least_choices, onward_table

_ON_NOTHING = (None, None)


def _ways_for(draft):
    """Return for each pick the ways to stand for it, in order."""
    check_draft(draft)
    treadling = draft[2]
    if max([len(pressed) for pressed in treadling]) > 2:
        raise ArgumentError("feet")
    return [_ways_to_press(pressed) for pressed in treadling]


def _ways_to_press(pressed):
    if len(pressed) == 0:
        return (_ON_NOTHING,)
    left = pressed[0]
    right = pressed[1] if len(pressed) == 2 else None
    return (left, right), (right, left)


def _steps_between(before, way):
    return len([1 for stood, treadle in zip(before, way) if treadle is not None and treadle != stood])


def step_table(draft):
    """Return for each pick and each way to stand for it the fewest steps from the next pick on."""
    return onward_table(_ways_for(draft), _steps_between)


def fewest_steps(draft):
    """Return the fewest steps for the picks of a draft, and ways to stand that take so many."""
    ways = _ways_for(draft)
    taken = least_choices(ways, onward_table(ways, _steps_between), _ON_NOTHING, _steps_between)
    return _steps_in(taken), tuple(taken)


def _steps_in(ways):
    return sum([_steps_between(before, way) for before, way in zip([_ON_NOTHING, *ways], ways)])


def steps_of(draft, ways):
    """Return how many steps some ways to stand take."""
    right = _ways_for(draft)
    if not is_row(ways, len(right)) or not all([_is_way(way, told) for way, told in zip(ways, right)]):
        raise ArgumentError("ways")
    return _steps_in(ways)


def _is_way(value, right):
    # A boolean is equal to an integer, but is no treadle.
    if not is_row(value, 2) or not all([part is None or is_integer(part) for part in value]):
        return False
    return value in right


def accept_step_table(draft, table):
    """Raise PaperError unless a value is the table of steps."""
    ways = _ways_for(draft)
    if not is_table(table, [len(here) for here in ways]):
        raise PaperError("form")
    if table != onward_table(ways, _steps_between):
        raise PaperError("entry")
