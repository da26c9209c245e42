"""The sums of cloths, and the switches that lead from one cloth to another one with the same sums."""

from hangstogether.checks import check_cloth
from hangstogether.errors import ArgumentError, PaperError
from hangstogether.kinds import begins, is_integer, is_number, is_row
from hangstogether.limits import MAX_ENDS, MAX_PICKS


def sums_of(cloth):
    """Return for each end how many picks it lies above, and for each pick how many ends lie above it."""
    check_cloth(cloth)
    return tuple([sum(column) for column in zip(*cloth)]), tuple([sum(row) for row in cloth])


def _check_sums(ends, picks):
    if not isinstance(ends, tuple) or not 1 <= len(ends) <= MAX_ENDS:
        raise ArgumentError("ends")
    if not isinstance(picks, tuple) or not 1 <= len(picks) <= MAX_PICKS:
        raise ArgumentError("picks")
    if not all([is_number(part, 0, len(picks)) for part in ends]):
        raise ArgumentError("ends")
    if not all([is_number(part, 0, len(ends)) for part in picks]):
        raise ArgumentError("picks")


def with_sums(ends, picks):
    """Return the pair of "cloth" and a cloth with these sums, or "unequal" or "barred" with a number."""
    _check_sums(ends, picks)
    difference = sum(ends) - sum(picks)
    if difference != 0:
        return "unequal", difference
    barring = [many for many in range(1, len(picks) + 1) if _bars(ends, picks, many)]
    if barring:
        return "barred", barring[0]
    return "cloth", _built(ends, picks)


def _bars(ends, picks, many):
    """Tell whether so many picks have more together than the ends can give them."""
    greatest = sorted(picks, reverse=True)[:many]
    return sum(greatest) > sum([min(part, many) for part in ends])


def _built(ends, picks):
    needed = list(ends)
    rows = [()] * len(picks)
    for pick in _greatest_places(picks):
        given = _greatest_places(needed)[:picks[pick]]
        rows[pick] = tuple([1 if end in given else 0 for end in range(len(ends))])
        needed = [part - row for part, row in zip(needed, rows[pick])]
    return tuple(rows)


def _greatest_places(parts):
    """Return the places of some numbers, those of greater ones first, those of equal ones in order."""
    return [place for _, place in sorted([(-part, number) for number, part in enumerate(parts)])]


def accept_sums(ends, picks, told):
    """Raise PaperError unless a value is a right answer of with_sums."""
    _check_sums(ends, picks)
    if begins(told, 2, "cloth"):
        check_cloth(told[1])
        right = sums_of(told[1]) == (ends, picks)
    elif begins(told, 2, "unequal") and is_integer(told[1]):
        right = told[1] != 0 and told[1] == sum(ends) - sum(picks)
    elif begins(told, 2, "barred") and is_integer(told[1]):
        right = 1 <= told[1] <= len(picks) and _bars(ends, picks, told[1])
    else:
        raise PaperError("form")
    if not right:
        raise PaperError("sums")


def _is_switch(rows, value):
    if not is_row(value, 4):
        return False
    pick, other, end, last = value
    if not is_number(pick, 0, len(rows) - 1) or not is_number(other, pick + 1, len(rows) - 1):
        return False
    if not is_number(end, 0, len(rows[0]) - 1) or not is_number(last, end + 1, len(rows[0]) - 1):
        return False
    upper, lower = rows[pick], rows[other]
    return upper[end] != lower[end] and upper[last] != lower[last] and upper[end] != upper[last]


def _do_switch(rows, switch):
    pick, other, end, last = switch
    for number in (pick, other):
        rows[number][end] = 1 - rows[number][end]
        rows[number][last] = 1 - rows[number][last]


def switched(cloth, switches):
    """Return the cloth behind switches that are done one after the other."""
    check_cloth(cloth)
    if not isinstance(switches, tuple):
        raise ArgumentError("switches")
    rows = [list(row) for row in cloth]
    for switch in switches:
        if not _is_switch(rows, switch):
            raise ArgumentError("switches")
        _do_switch(rows, switch)
    return tuple([tuple(row) for row in rows])


def switches_between(first, second):
    """Return switches that lead from a cloth to another one, or None if their sums are unlike."""
    check_cloth(first)
    check_cloth(second)
    if sums_of(first) != sums_of(second):
        return None
    rows = [list(row) for row in first]
    goal = [list(row) for row in second]
    done = []
    undone = []
    for pick in range(len(rows)):
        while rows[pick] != goal[pick]:
            parts = list(zip(rows[pick], goal[pick]))
            gives, takes = parts.index((1, 0)), parts.index((0, 1))
            other = _pick_for(rows, pick, gives, takes)
            if other is not None:
                done.append(_switch(pick, other, gives, takes))
                _do_switch(rows, done[-1])
            else:
                # The sums being the same, the other cloth can be brought nearer then.
                undone.append(_switch(pick, _pick_for(goal, pick, takes, gives), gives, takes))
                _do_switch(goal, undone[-1])
    return tuple(done + undone[::-1])


def _pick_for(rows, pick, gives, takes):
    """Return the first pick behind one that has what one end gives it for another one, or None."""
    found = [other for other in range(pick + 1, len(rows)) if rows[other][gives] == 0 and rows[other][takes] == 1]
    return found[0] if found else None


def _switch(pick, other, end, last):
    return pick, other, min(end, last), max(end, last)
