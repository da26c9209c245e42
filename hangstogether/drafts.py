"""Drafts and the cloths that they weave."""

from hangstogether.checks import check_cloth, check_draft
from hangstogether.errors import ArgumentError, TooMany
from hangstogether.kinds import is_order
from hangstogether.limits import MAX_SHAFTS, MAX_TREADLES


def woven(draft):
    """Return the cloth that a draft weaves."""
    check_draft(draft)
    threading, tieup, treadling = draft
    return tuple([_row_of(threading, _lifted(tieup, pressed)) for pressed in treadling])


def _lifted(tieup, pressed):
    return [shaft for treadle in pressed for shaft in tieup[treadle]]


def _row_of(threading, shafts):
    return tuple([1 if shaft in shafts else 0 for shaft in threading])


def needs(cloth):
    """Return the fewest shafts of a cloth, and the fewest treadles if one is pressed for each pick."""
    check_cloth(cloth)
    return len(_numbered(_columns(cloth))[0]), len(_numbered(cloth)[0])


def drawn(cloth):
    """Return the draft of a cloth with so many shafts and treadles as it needs."""
    check_cloth(cloth)
    draft = plain_draft(cloth)
    check_shafts(draft[0])
    if len(draft[1]) > MAX_TREADLES:
        raise TooMany("treadles")
    return draft


def plain_draft(cloth):
    """Return what `drawn` returns, also if these are more shafts or treadles than there may be."""
    _, threading = _numbered(_columns(cloth))
    rows, places = _numbered(cloth)
    firsts = [threading.index(shaft) for shaft in range(max(threading) + 1)]
    tieup = [tuple([shaft for shaft, end in enumerate(firsts) if row[end] == 1]) for row in rows]
    return threading, tuple(tieup), tuple([(place,) for place in places])


def check_shafts(threading):
    """Raise TooMany for a threading on more shafts than there may be."""
    if max(threading) >= MAX_SHAFTS:
        raise TooMany("shafts")


def _columns(cloth):
    return tuple(zip(*cloth))


def _numbered(rows):
    """Return the unlike rows in the order in which they first come, and the number of each row among them."""
    places = {}
    for row in rows:
        if row not in places:
            places[row] = len(places)
    return list(places), tuple([places[row] for row in rows])


def turned_draft(draft):
    """Return the draft of the cloth in which ends and picks are exchanged, with the other side above."""
    columns = _columns(woven(draft))
    return drawn(tuple([tuple([1 - part for part in column]) for column in columns]))


def reordered(draft, shafts, treadles):
    """Return the draft with its shafts and treadles put in other places."""
    check_draft(draft)
    threading, tieup, treadling = draft
    if not is_order(shafts, _count_of_shafts(threading, tieup)):
        raise ArgumentError("shafts")
    if not is_order(treadles, len(tieup)):
        raise ArgumentError("treadles")
    return (
        tuple([shafts[shaft] for shaft in threading]),
        tuple([_moved(tieup[treadles.index(place)], shafts) for place in range(len(tieup))]),
        tuple([_moved(pressed, treadles) for pressed in treadling]),
    )


def _count_of_shafts(threading, tieup):
    return 1 + max([max(row) for row in [threading, *tieup] if row])


def _moved(numbers, places):
    return tuple(sorted([places[number] for number in numbers]))


def tidy(draft):
    """Return the draft without the shafts that have no end and the treadles that no pick presses."""
    check_draft(draft)
    threading, tieup, treadling = draft
    shafts = sorted(set(threading))
    treadles = sorted({treadle for pressed in treadling for treadle in pressed})
    return (
        _anew(threading, shafts),
        tuple([_anew(tieup[treadle], shafts) for treadle in treadles]),
        tuple([_anew(pressed, treadles) for pressed in treadling]),
    )


def _anew(numbers, left):
    return tuple([left.index(number) for number in numbers if number in left])
