"""Families of weaves: bare and plain cloths, satins and twills."""

from math import gcd

from hangstogether.checks import check_cloth
from hangstogether.errors import ArgumentError, PaperError
from hangstogether.kinds import begins, is_integer, is_number
from hangstogether.limits import MAX_ENDS
from hangstogether.rounds import least_repeat_of, moved


def _are_lengths(value):
    if not isinstance(value, tuple) or len(value) < 2 or len(value) % 2 != 0:
        return False
    return all([is_number(part, 1, MAX_ENDS) for part in value]) and sum(value) <= MAX_ENDS


def twill(parts, step):
    """Return the cloth whose first row the lengths tell, each further one being the one before it, moved."""
    if not _are_lengths(parts):
        raise ArgumentError("parts")
    if not is_number(step, 0, sum(parts) - 1):
        raise ArgumentError("step")
    return _moved_on(_row_of(parts), step)


def _row_of(parts):
    return tuple([1 - place % 2 for place, length in enumerate(parts) for _ in range(length)])


def _moved_on(first, step):
    rows = [first]
    row = moved(first, step)
    while row != first:
        rows.append(row)
        row = moved(row, step)
    return tuple(rows)


def _check_ends(ends):
    if not is_number(ends, 1, MAX_ENDS):
        raise ArgumentError("ends")


def satin_steps(ends):
    """Return the steps of the satins of a number of ends."""
    _check_ends(ends)
    return tuple([step for step in range(2, ends - 1) if gcd(step, ends) == 1])


def satin(ends, step):
    """Return the twill whose first row has a one at the first end alone."""
    steps = satin_steps(ends)
    if not is_integer(step) or step not in steps:
        raise ArgumentError("step")
    return _moved_on(_row_of((1, ends - 1)), step)


def satins(ends):
    """Return the tuples of kin steps, in the order of their least steps."""
    steps = satin_steps(ends)
    found = []
    for step in steps:
        kin = tuple([other for other in steps if _are_kin(ends, step, other)])
        if kin[0] == step:
            found.append(kin)
    return tuple(found)


def _are_kin(ends, step, other):
    if step == other or step + other == ends:
        return True
    return step * other % ends == 1 or step * (ends - other) % ends == 1


def twill_step(cloth):
    """Return the pair of "twill" and the least step of a cloth, or "rows" and the first row that no step fits."""
    check_cloth(cloth)
    rows = least_repeat_of(cloth)
    steps = list(range(len(rows[0])))
    for pick in range(len(rows)):
        steps = [step for step in steps if _follows(rows, pick, step)]
        if not steps:
            return "rows", pick
    return "twill", steps[0]


def _follows(rows, pick, step):
    """Tell whether a row, moved by a step, becomes the one behind it."""
    return moved(rows[pick], step) == rows[(pick + 1) % len(rows)]


def accept_twill_step(cloth, told):
    """Raise PaperError unless a value is a right answer of twill_step."""
    check_cloth(cloth)
    if begins(told, 2, "twill"):
        if not _is_step(least_repeat_of(cloth), told[1]):
            raise PaperError("step")
    elif begins(told, 2, "rows"):
        if not is_integer(told[1]) or told != twill_step(cloth):
            raise PaperError("rows")
    else:
        raise PaperError("form")


def _is_step(rows, step):
    if not is_number(step, 0, len(rows[0]) - 1):
        return False
    return all([_follows(rows, pick, step) for pick in range(len(rows))])


def family(cloth):
    """Return what an endless cloth is: bare, plain, a satin, a twill or another one."""
    kind, step = twill_step(cloth)
    rows = least_repeat_of(cloth)
    first = rows[0]
    if len(rows) == 1 and len(first) == 1:
        return "bare", first[0]
    if rows in (((0, 1), (1, 0)), ((1, 0), (0, 1))):
        return ("plain",)
    if kind == "rows":
        return ("other",)
    ones = sum(first)
    if ones in (1, len(first) - 1) and step in satin_steps(len(first)):
        return "satin", ones, step
    return "twill", _lengths_of(first), step


def _lengths_of(row):
    """Return the lengths of an endless row from its first 1 on that has a 0 before it."""
    starts = [place for place, part in enumerate(row) if part == 1 and row[place - 1] == 0]
    begun = moved(row, -starts[0])
    changes = [place for place in range(1, len(row)) if begun[place] != begun[place - 1]]
    return tuple([behind - place for place, behind in zip([0, *changes], [*changes, len(row)])])
