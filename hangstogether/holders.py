"""Warping from cones on few holders."""

from hangstogether.crossings import are_colours
from hangstogether.errors import ArgumentError, PaperError
from hangstogether.kinds import is_number, is_row, is_table
from hangstogether.limits import MAX_ENDS, MAX_HELD
from hangstogether.onward import least_choices, onward_table
from hangstogether.subsets import places_in


def _check_arguments(colours, holders):
    if not isinstance(colours, tuple) or not 1 <= len(colours) <= MAX_ENDS:
        raise ArgumentError("colours")
    if not are_colours(colours, len(colours)) or len(set(colours)) > MAX_HELD:
        raise ArgumentError("colours")
    if not is_number(holders, 1, MAX_HELD):
        raise ArgumentError("holders")


def _unlike_ones(colours):
    """Return the unlike colours in the order in which they first come."""
    return list({colour: True for colour in colours})


def _sets_of_ends(colours, holders):
    """Return for each end the sets of colours that may be held at it, in ascending order."""
    unlike = _unlike_ones(colours)
    held = [number for number in range(1 << len(unlike)) if len(places_in(number)) <= holders]
    return [[number for number in held if unlike.index(colour) in places_in(number)] for colour in colours]


def _loads_between(held, further):
    """Return how many colours a set has that another one before it has not."""
    return len(places_in(further & ~held))


def load_table(colours, holders):
    """Return for each end and each set of colours held at it the fewest loads at all further ends."""
    _check_arguments(colours, holders)
    return onward_table(_sets_of_ends(colours, holders), _loads_between)


def fewest_loads(colours, holders):
    """Return the fewest loads of all ends, and held colours that take so many."""
    table = load_table(colours, holders)
    # Ahead of the first end the empty set is held.
    taken = least_choices(_sets_of_ends(colours, holders), table, 0, _loads_between)
    unlike = _unlike_ones(colours)
    held = [tuple([unlike[place] for place in places_in(number)]) for number in taken]
    return _loads_in(held), tuple(held)


def accept_load_table(colours, holders, table):
    """Raise PaperError unless a value is the table of loads."""
    _check_arguments(colours, holders)
    sets = _sets_of_ends(colours, holders)
    if not is_table(table, [len(here) for here in sets]):
        raise PaperError("form")
    if table != onward_table(sets, _loads_between):
        raise PaperError("entry")


def by_rule(colours, holders):
    """Return the held colours if each is loaded when its end comes, and the one that comes again latest is dropped."""
    _check_arguments(colours, holders)
    held = ()
    told = []
    for end, colour in enumerate(colours):
        if colour not in held:
            if len(held) == holders:
                dropped = _latest_of(held, colours[end + 1:])
                held = tuple([other for other in held if other != dropped])
            held = (*held, colour)
        told.append(held)
    return tuple(told)


def _latest_of(held, further):
    """Return the held colour that comes latest among further ends; the first of those that never come."""
    never = [colour for colour in held if colour not in further]
    return never[0] if never else max(held, key=lambda colour: further.index(colour))


def loads_of(colours, holders, held):
    """Return how many loads told held colours take."""
    _check_arguments(colours, holders)
    if not is_row(held, len(colours)):
        raise ArgumentError("held")
    if not all([_may_be_held(part, colours, holders, colour) for part, colour in zip(held, colours)]):
        raise ArgumentError("held")
    return _loads_in(held)


def _loads_in(held):
    pairs = list(zip([(), *held], held))
    return len([1 for before, part in pairs for colour in part if colour not in before])


def _may_be_held(value, colours, holders, own):
    """Tell whether a value is a tuple of unlike colours of the warp that may be held at an end of this colour."""
    if not isinstance(value, tuple) or not all([isinstance(part, str) and part in colours for part in value]):
        return False
    return len(value) <= holders and len(set(value)) == len(value) and own in value
