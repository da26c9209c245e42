"""Bands that are woven with tablets: cards with four holes that are turned."""

from hangstogether.crossings import is_colour
from hangstogether.errors import ArgumentError, PaperError
from hangstogether.kinds import is_number, is_row
from hangstogether.limits import MAX_CARDS, MAX_PICKS
from hangstogether.tokens import is_name

_HOLES = 4
_STEPS = {"F": 1, "B": -1, "I": 0}
_START = ((0, 0),)


def _is_card(value):
    if not is_row(value, 4) or not is_row(value[0], _HOLES):
        return False
    colours, side, start, pack = value
    if not all([is_colour(colour) and is_name(colour) for colour in colours]) or not (side == "S" or side == "Z"):
        return False
    return is_number(start, 0, _HOLES - 1) and is_number(pack, 0, 1)


def _check_cards(cards):
    if not isinstance(cards, tuple) or not 1 <= len(cards) <= MAX_CARDS or not all([_is_card(card) for card in cards]):
        raise ArgumentError("cards")


def _is_turn(value):
    return is_row(value, 2) and all([isinstance(letter, str) and letter in _STEPS for letter in value])


def _check_turns(cards, turns):
    _check_cards(cards)
    if not isinstance(turns, tuple) or len(turns) > MAX_PICKS or not all([_is_turn(turn) for turn in turns]):
        raise ArgumentError("turns")


def _check_picture(cards, picture):
    _check_cards(cards)
    if not isinstance(picture, tuple) or len(picture) > MAX_PICKS:
        raise ArgumentError("picture")
    if not all([_is_row_of_picture(row, len(cards)) for row in picture]):
        raise ArgumentError("picture")


def _is_row_of_picture(value, size):
    return is_row(value, size) and all([part is None or isinstance(part, str) for part in value])


def _behind(places, turn):
    """Return the places of the packs behind a turn."""
    return tuple([(place + _STEPS[letter]) % _HOLES for place, letter in zip(places, turn)])


def _colour_of(card, places):
    colours, _, start, pack = card
    return colours[(start + places[pack]) % _HOLES]


def _slant_of(card, turn):
    _, side, _, pack = card
    if turn[pack] == "I":
        return "-"
    return "/" if (turn[pack] == "F") == (side == "Z") else "\\"


def band(cards, turns):
    """Return for each turn what the cards show behind it."""
    _check_turns(cards, turns)
    rows = []
    places = _START[0]
    for turn in turns:
        places = _behind(places, turn)
        rows.append(tuple([(_colour_of(card, places), _slant_of(card, turn)) for card in cards]))
    return tuple(rows)


def _forward_turns(turns, pack):
    """Return how many forward turns of a pack there are, less the backward ones."""
    return sum([_STEPS[turn[pack]] for turn in turns])


def twist(cards, turns):
    """Return for each card the quarter turns that its threads are twisted."""
    _check_turns(cards, turns)
    forward = [_forward_turns(turns, pack) for pack in (0, 1)]
    return tuple([forward[pack] if side == "Z" else -forward[pack] for _, side, _, pack in cards])


def untwisting(cards, turns):
    """Return the fewest further turns behind which no card has a twist."""
    _check_turns(cards, turns)
    used = [pack for _, _, _, pack in cards]
    left = [_forward_turns(turns, pack) if pack in used else 0 for pack in (0, 1)]
    most = max([abs(count) for count in left])
    return tuple([tuple([_letter_back(count, done) for count in left]) for done in range(most)])


def _letter_back(count, done):
    """Return how a pack is turned that was turned forward so many times more often, when some turns back are done."""
    if done >= abs(count):
        return "I"
    return "B" if count > 0 else "F"


def _shows(cards, places, row):
    return all([colour is None or colour == _colour_of(card, places) for card, colour in zip(cards, row)])


def _all_turns():
    return [(letter, other) for letter in _STEPS for other in _STEPS]


def _part_behind(cards, before, row):
    """Return the part of the table behind another one, for a row of the picture."""
    reached = {_behind(places, turn): True for places in before for turn in _all_turns()}
    return tuple(sorted([places for places in reached if _shows(cards, places, row)]))


def turn_table(cards, picture):
    """Return for each row of a picture the places of the packs at which the cards can show it."""
    _check_picture(cards, picture)
    table = [_START]
    for row in picture:
        table.append(_part_behind(cards, table[-1], row))
    return tuple(table)


def turns_for(cards, picture):
    """Return turns with which the cards show a picture, or None."""
    table = turn_table(cards, picture)
    if table[-1] == ():
        return None
    places = table[-1][0]
    turns = []
    for before in table[-2::-1]:
        places, turn = _step_to(before, places)
        turns.append(turn)
    return tuple(turns[::-1])


def _step_to(before, goal):
    """Return places of a part of the table, and a turn that leads from them to other places."""
    found = [(places, turn) for places in before for turn in _all_turns() if _behind(places, turn) == goal]
    return found[0]


def accept_turn_table(cards, picture, table):
    """Raise PaperError unless a value is the table of cards and a picture."""
    _check_picture(cards, picture)
    if not is_row(table, len(picture) + 1) or not all([_is_part(part) for part in table]):
        raise PaperError("form")
    if table[0] != _START:
        raise PaperError("start")
    for before, row, part in zip(table, picture, table[1:]):
        if part != _part_behind(cards, before, row):
            raise PaperError("row")


def _is_part(value):
    return isinstance(value, tuple) and all([_is_pair_of_places(part) for part in value])


def _is_pair_of_places(value):
    return is_row(value, 2) and all([is_number(place, 0, _HOLES - 1) for place in value])
