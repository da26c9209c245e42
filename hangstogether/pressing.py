"""The fewest treadles of a cloth if several are pressed together."""

from hangstogether.checks import check_cloth, check_draft
from hangstogether.drafts import check_shafts, plain_draft, woven
from hangstogether.errors import PaperError, TooMany
from hangstogether.kinds import is_number, is_row
from hangstogether.limits import MAX_CHOICES, MAX_TIES, MAX_TREADLES


class Board:
    """The cells of a cloth and its rectangles.

    A set of cells is a number whose binary digits tell which cells belong to it, from the first cell on.
    """

    def __init__(self, lifts):
        self.ties = _ties_of(lifts)
        cells = [(row, shaft) for row, shafts in enumerate(lifts) for shaft in shafts]
        self.whole = (1 << len(cells)) - 1
        # For each cell those that are not apart from it, itself among them.
        self.near = [_set_of([not _are_apart(lifts, cell, other) for other in cells]) for cell in cells]
        # Of these for each cell those that do not stand behind it.
        self.before = [near & ((2 << place) - 1) for place, near in enumerate(self.near)]
        self.covers = [_set_of([_is_in(cell, lifts, ties) for cell in cells]) for ties in self.ties]

    def bound(self, count, left):
        """Return the bound of a row of choices of so many rectangles that leaves these cells."""
        while left:
            left &= ~self.near[_first_of(left)]
            count += 1
        return count

    def least(self, count, left):
        """Return a number up to the bounds of the row and of all that begin with it and leave a cell.

        Such a longer row can have a lesser bound than this one. But each cell that is left here is not apart from
        a cell that does not stand behind it: from the first one that a further rectangle has, or from a found one.
        So cells of which no two have such a cell in common need as many further rectangles and found cells.
        """
        rest = left
        while rest:
            rest &= ~self.near_to_some(self.before[_first_of(rest)] & left)
            count += 1
        return count

    def near_to_some(self, cells):
        """Return all cells that are not apart from one of these."""
        found = 0
        while cells:
            first = _first_of(cells)
            found |= self.near[first]
            cells ^= 1 << first
        return found

    def choices(self, left):
        """Return the numbers of the rectangles that have the first of these cells."""
        first = left & -left
        return [number for number, cover in enumerate(self.covers) if cover & first]


def _first_of(cells):
    return (cells & -cells).bit_length() - 1


def _set_of(answers):
    members = 0
    for place, answer in enumerate(answers):
        if answer:
            members |= 1 << place
    return members


def _are_apart(lifts, cell, other):
    return other[1] not in lifts[cell[0]] or cell[1] not in lifts[other[0]]


def _is_in(cell, lifts, ties):
    row, shaft = cell
    return shaft in ties and _lifts_all(lifts[row], ties)


def _lifts_all(shafts, ties):
    return all([shaft in shafts for shaft in ties])


def _ties_of(lifts):
    """Return the ties of all rectangles, in ascending order."""
    found = {}
    for shafts in lifts:
        earlier = [*found, shafts]
        for other in earlier:
            found[tuple([shaft for shaft in other if shaft in shafts])] = True
        if len(found) > MAX_TIES:
            raise TooMany("ties")
    return sorted([ties for ties in found if ties])


def fewest_treadles(cloth):
    """Return the fewest treadles of a cloth, a draft with so many, and the paper that one less is too few."""
    check_cloth(cloth)
    threading, lifts, places = plain_draft(cloth)
    board = Board(lifts)
    check_shafts(threading)
    number = board.bound(0, board.whole)
    found = _first_cover(board, number)
    while found is None:
        number += 1
        found = _first_cover(board, number)
    if _open_rows(board, 0, board.whole, number, {}) > MAX_CHOICES:
        raise TooMany("choices")
    # A rectangle for each shaft is enough, so there are no more of them than shafts, and this limit holds, too.
    if number > MAX_TREADLES:
        raise TooMany("treadles")
    tieup = tuple([board.ties[choice] for choice in found])
    treadling = tuple([_pressed(lifts[place], tieup) for (place,) in places])
    return number, (threading, tieup, treadling), _paper(board, 0, board.whole, number - 1)


def _pressed(shafts, tieup):
    return tuple([treadle for treadle, ties in enumerate(tieup) if _lifts_all(shafts, ties)])


def _first_cover(board, most):
    """Return the first row of at most so many rectangles that leaves no cell, or None."""
    found = None
    open_rows = 0
    waiting = [((), board.whole)]
    while waiting:
        row, left = waiting.pop()
        if board.bound(len(row), left) > most:
            continue
        if left == 0:
            if found is None:
                found = row
            continue
        # These are among the rows that _open_rows counts, so where they are too many, no more need be counted.
        open_rows += 1
        if open_rows > MAX_CHOICES:
            raise TooMany("choices")
        for choice in reversed(board.choices(left)):
            waiting.append(((*row, choice), left & ~board.covers[choice]))
    return found


def _open_rows(board, count, left, most, known):
    """Return how many rows, of all that begin with one, leave a cell and have a bound up to a number.

    The counting ends where they are too many. What is known for rows that leave the same cells is kept.
    """
    if left == 0:
        return 0
    if (count, left) not in known:
        rows = 1 if board.bound(count, left) <= most else 0
        if board.least(count, left) <= most:
            for choice in board.choices(left):
                rows += _open_rows(board, count + 1, left & ~board.covers[choice], most, known)
                if rows > MAX_CHOICES:
                    break
        known[(count, left)] = rows
    return known[(count, left)]


def _paper(board, count, left, most):
    if board.bound(count, left) > most:
        return ()
    choices = board.choices(left)
    return tuple([_paper(board, count + 1, left & ~board.covers[choice], most) for choice in choices])


def accept_treadles(cloth, told):
    """Raise an error unless a value is a right answer of fewest_treadles."""
    check_cloth(cloth)
    if not is_row(told, 3) or not is_number(told[0], 0, MAX_TREADLES):
        raise PaperError("form")
    number, draft, paper = told
    check_draft(draft)
    if woven(draft) != cloth or len(draft[1]) != number:
        raise PaperError("draft")
    board = Board(plain_draft(cloth)[1])
    if not _is_paper(board, 0, board.whole, number - 1, paper):
        raise PaperError("paper")


def _is_paper(board, count, left, most, told):
    if not isinstance(told, tuple):
        return False
    if board.bound(count, left) > most:
        return told == ()
    if left == 0:
        return False
    choices = board.choices(left)
    if len(told) != len(choices):
        return False
    for choice, part in zip(choices, told):
        if not _is_paper(board, count + 1, left & ~board.covers[choice], most, part):
            return False
    return True
