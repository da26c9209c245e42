"""Endless cloths that are turned, mirrored and moved."""

from hangstogether.checks import check_cloth, is_cloth
from hangstogether.errors import ArgumentError, PaperError
from hangstogether.kinds import begins, is_number, is_row
from hangstogether.rounds import least_repeat_of, moved, moved_cloth
from hangstogether.threads import threads_of

_GREATEST_MOVE = 1000


def reduced(cloth):
    """Return the least repeat of a cloth."""
    check_cloth(cloth)
    return least_repeat_of(cloth)


def turned(cloth, turn):
    """Return the cloth behind a turn."""
    check_cloth(cloth)
    if not _is_turn(turn):
        raise ArgumentError("turn")
    return _behind(cloth, turn)


def _is_turn(value):
    if not is_row(value, 3):
        return False
    way, picks, ends = value
    if not is_row(way, 4) or not all([is_number(part, 0, 1) for part in way]):
        return False
    return all([is_number(step, -_GREATEST_MOVE, _GREATEST_MOVE) for step in (picks, ends)])


def _behind(cloth, turn):
    way, picks, ends = turn
    return moved_cloth(_behind_way(cloth, way), picks, ends)


def _behind_way(cloth, way):
    across, along, quarter, exchanged = way
    rows = cloth[::-1] if along == 1 else cloth
    if across == 1:
        rows = tuple([row[::-1] for row in rows])
    if quarter == 1:
        rows = _exchanged(tuple(zip(*rows)))
    return _exchanged(rows) if exchanged == 1 else rows


def _exchanged(cloth):
    return tuple([tuple([1 - part for part in row]) for row in cloth])


def _turned_ones(cloth):
    """Return the pairs of each turn of a cloth, in ascending order, and of the cloth behind it."""
    digits = (0, 1)
    found = []
    for way in [(a, b, c, d) for a in digits for b in digits for c in digits for d in digits]:
        rows = _behind_way(cloth, way)
        sides = [moved_cloth(rows, 0, ends) for ends in range(len(rows[0]))]
        for picks in range(len(rows)):
            for ends, side in enumerate(sides):
                found.append(((way, picks, ends), moved(side, picks)))
    return found


def _turns_between(first, second):
    """Return all turns of the first cloth that lead to the second one, in ascending order."""
    return [turn for turn, behind in _turned_ones(first) if behind == second]


def normal(cloth):
    """Return the normal form of a cloth, and the first turn of its least repeat that leads to it."""
    check_cloth(cloth)
    least = least_repeat_of(cloth)
    _, form = min([(len(behind), behind) for _, behind in _turned_ones(least)])
    return form, _turns_between(least, form)[0]


def compare(first, second):
    """Return the pair of "same" and the first turn between two cloths, or "unlike" and their normal forms."""
    _check_both(first, second)
    turns = _turns_between(least_repeat_of(first), least_repeat_of(second))
    if turns:
        return "same", turns[0]
    return "unlike", normal(first)[0], normal(second)[0]


def _check_both(first, second):
    check_cloth(first)
    check_cloth(second)


def accept_compare(first, second, told):
    """Raise PaperError unless a value is a right answer of compare."""
    _check_both(first, second)
    if begins(told, 2, "same"):
        turn = told[1]
        if not _is_turn(turn) or _behind(least_repeat_of(first), turn) != least_repeat_of(second):
            raise PaperError("turn")
    elif begins(told, 3, "unlike"):
        forms = told[1:]
        # A cloth is asked for, as a boolean is equal to an integer.
        if not all([is_cloth(form) for form in forms]) or forms[0] == forms[1]:
            raise PaperError("forms")
        if forms != (normal(first)[0], normal(second)[0]):
            raise PaperError("forms")
    else:
        raise PaperError("form")


def symmetries(cloth):
    """Return all turns of the least repeat that lead from it to itself, in ascending order."""
    check_cloth(cloth)
    least = least_repeat_of(cloth)
    return tuple(_turns_between(least, least))


def _carried(cloth, turn, thread):
    """Return the thread to which a turn carries a thread of a cloth."""
    (across, along, quarter, _), picks, ends = turn
    kind, number = thread
    if kind == "end":
        count, mirrored = len(cloth[0]), across
    else:
        count, mirrored = len(cloth), along
    place = count - 1 - number if mirrored == 1 else number
    stays_end = (kind == "end") == (quarter == 0)
    if stays_end:
        return "end", (place + ends) % count
    return "pick", (place + picks) % count


def classes(cloth):
    """Return for each thread the first one that a symmetry carries to it, and the first symmetry that does."""
    turns = symmetries(cloth)
    least = least_repeat_of(cloth)
    firsts = {}
    for thread in threads_of(least):
        for turn in turns:
            goal = _carried(least, turn, thread)
            if goal not in firsts:
                firsts[goal] = (thread, turn)
    return tuple([firsts[thread] for thread in threads_of(least)])


def is_even(cloth):
    """Tell whether each thread can be carried to each other one."""
    firsts = classes(cloth)
    return all([first == firsts[0][0] for first, _ in firsts])
