"""Shuttles that are thrown between the boxes at the two sides of a loom."""

from hangstogether.errors import ArgumentError, PaperError
from hangstogether.kinds import is_integer, is_number, is_row
from hangstogether.limits import MAX_BOXES, MAX_PICKS, MAX_SHUTTLES


def _check_arguments(boxes, places, throws):
    if not is_number(boxes, 1, MAX_BOXES):
        raise ArgumentError("boxes")
    if not isinstance(places, tuple) or not 1 <= len(places) <= MAX_SHUTTLES or not _are_places(places, boxes):
        raise ArgumentError("places")
    if not isinstance(throws, tuple) or len(throws) > MAX_PICKS:
        raise ArgumentError("throws")
    if not all([is_number(shuttle, 0, len(places) - 1) for shuttle in throws]):
        raise ArgumentError("throws")


def _are_places(parts, boxes):
    """Tell whether the parts of a tuple are unlike places of shuttles."""
    return all([_is_place(part, boxes) for part in parts]) and len(set(parts)) == len(parts)


def _is_place(value, boxes):
    return is_row(value, 2) and is_number(value[0], 0, 1) and is_number(value[1], 0, boxes - 1)


def _start(places):
    return places, (0, 0)


def _free_boxes(boxes, state, shuttle):
    """Return the empty boxes of the side to which a shuttle is thrown."""
    places = state[0]
    goal = 1 - places[shuttle][0]
    return [box for box in range(boxes) if (goal, box) not in places]


def _thrown(state, shuttle, box):
    """Return the state behind a throw that a box catches, and the moves of the boxes."""
    places, levels = state
    side, left = places[shuttle]
    further = (left, box) if side == 0 else (box, left)
    moves = abs(further[0] - levels[0]) + abs(further[1] - levels[1])
    return ((*places[:shuttle], (1 - side, box), *places[shuttle + 1:]), further), moves


def _part_behind(boxes, before, shuttle):
    """Return the part of the table behind another one, when a shuttle is thrown."""
    least = {}
    for entry in before:
        for state, moves in _entries_behind(boxes, entry, shuttle):
            least[state] = min(least.get(state, moves), moves)
    return tuple(sorted(least.items()))


def throw_table(boxes, places, throws):
    """Return for the time ahead of the first throw and behind each one the least moves to each state."""
    _check_arguments(boxes, places, throws)
    table = [((_start(places), 0),)]
    for shuttle in throws:
        table.append(_part_behind(boxes, table[-1], shuttle))
    return tuple(table)


def throws_for(boxes, places, throws):
    """Return the least moves for all throws and the boxes that catch the shuttles then, or None."""
    table = throw_table(boxes, places, throws)
    if table[-1] == ():
        return None
    entry = min(table[-1], key=_moves_to)
    least = entry[1]
    caught = []
    for before, shuttle in zip(table[-2::-1], throws[::-1]):
        caught.append(entry[0][0][shuttle][1])
        entry = _entry_ahead(boxes, before, shuttle, entry)
    return least, tuple(caught[::-1])


def _moves_to(entry):
    return entry[1]


def _entry_ahead(boxes, before, shuttle, entry):
    """Return the first entry of a part of the table from which a throw leads to an entry of the next part."""
    return [told for told in before if entry in _entries_behind(boxes, told, shuttle)][0]


def _entries_behind(boxes, entry, shuttle):
    """Return the states to which a throw can lead from a state, with the moves that it takes by this way."""
    state, moves = entry
    found = [_thrown(state, shuttle, box) for box in _free_boxes(boxes, state, shuttle)]
    return [(further, moves + more) for further, more in found]


def moves_of(boxes, places, throws, free):
    """Return how many moves throws take if they are caught in told boxes."""
    _check_arguments(boxes, places, throws)
    if not is_row(free, len(throws)):
        raise ArgumentError("free")
    state = _start(places)
    total = 0
    for shuttle, box in zip(throws, free):
        if not is_integer(box) or box not in _free_boxes(boxes, state, shuttle):
            raise ArgumentError("free")
        state, moves = _thrown(state, shuttle, box)
        total += moves
    return total


def accept_throw_table(boxes, places, throws, table):
    """Raise PaperError unless a value is the table of throws."""
    _check_arguments(boxes, places, throws)
    if not is_row(table, len(throws) + 1) or not all([_is_part(part, boxes, len(places)) for part in table]):
        raise PaperError("form")
    if table[0] != ((_start(places), 0),):
        raise PaperError("start")
    for before, shuttle, part in zip(table, throws, table[1:]):
        if part != _part_behind(boxes, before, shuttle):
            raise PaperError("layer")


def _is_part(value, boxes, shuttles):
    return isinstance(value, tuple) and all([_is_entry(part, boxes, shuttles) for part in value])


def _is_entry(value, boxes, shuttles):
    return is_row(value, 2) and _is_state(value[0], boxes, shuttles) and is_integer(value[1])


def _is_state(value, boxes, shuttles):
    if not is_row(value, 2) or not is_row(value[0], shuttles) or not _are_places(value[0], boxes):
        return False
    return is_row(value[1], 2) and all([is_number(box, 0, boxes - 1) for box in value[1]])
