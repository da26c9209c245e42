"""Pictures of cloths whose threads have colours."""

from hangstogether.checks import check_cloth
from hangstogether.crossings import are_colours, crossings_that_show, is_crossing, shown_at
from hangstogether.errors import ArgumentError, PaperError
from hangstogether.kinds import begins, is_integer, is_row
from hangstogether.threads import threads_of


def is_plan(cloth, value):
    """Tell whether a value is a plan for a cloth."""
    return is_row(value, 2) and are_colours(value[0], len(cloth[0])) and are_colours(value[1], len(cloth))


def _is_picture(cloth, value):
    return is_row(value, len(cloth)) and all([are_colours(row, len(cloth[0])) for row in value])


def _check_plan(cloth, plan):
    check_cloth(cloth)
    if not is_plan(cloth, plan):
        raise ArgumentError("plan")


def _check_picture(cloth, rows):
    check_cloth(cloth)
    if not _is_picture(cloth, rows):
        raise ArgumentError("picture")


def picture(cloth, plan):
    """Return the picture of a cloth with a plan."""
    _check_plan(cloth, plan)
    warp, weft = plan
    return tuple([
        tuple([warp[end] if part == 1 else weft[pick] for end, part in enumerate(row)])
        for pick, row in enumerate(cloth)
    ])


def picture_behind(cloth, plan):
    """Return what is seen of a cloth with a plan from behind."""
    _check_plan(cloth, plan)
    behind = tuple([tuple([1 - part for part in row]) for row in cloth])
    return tuple([row[::-1] for row in picture(behind, plan)])


def _colour_at(rows, crossing):
    pick, end = crossing
    return rows[pick][end]


def plan_of(cloth, rows):
    """Return the pair of "plan" and the plan that shows a picture, or the triple of "clash" and two crossings."""
    _check_picture(cloth, rows)
    colours = []
    for thread in threads_of(cloth):
        shown = crossings_that_show(cloth, thread)
        unlike = [crossing for crossing in shown if _colour_at(rows, crossing) != _colour_at(rows, shown[0])]
        if unlike:
            return "clash", shown[0], unlike[0]
        colours.append(_colour_at(rows, shown[0]) if shown else None)
    return "plan", _plan_from(cloth, colours)


def _plan_from(cloth, colours):
    """Return the plan that has these colours for the threads in order."""
    ends = len(cloth[0])
    return tuple(colours[:ends]), tuple(colours[ends:])


def accept_plan_of(cloth, rows, told):
    """Raise PaperError unless a value is a right answer of plan_of."""
    _check_picture(cloth, rows)
    if begins(told, 2, "plan"):
        if told != plan_of(cloth, rows):
            raise PaperError("plan")
    elif begins(told, 3, "clash"):
        if not _is_clash(cloth, rows, told[1], told[2]):
            raise PaperError("clash")
    else:
        raise PaperError("form")


def _is_clash(cloth, rows, first, second):
    if not is_crossing(cloth, first) or not is_crossing(cloth, second):
        return False
    if shown_at(cloth, first) != shown_at(cloth, second):
        return False
    return _colour_at(rows, first) != _colour_at(rows, second)


def tallies(cloth, rows):
    """Return for each thread how many crossings that show it have which colour in a picture."""
    _check_picture(cloth, rows)
    return tuple([tuple(_counted(cloth, rows, thread)) for thread in threads_of(cloth)])


def _counted(cloth, rows, thread):
    """Return the pairs of the colours of a thread and their numbers, in the order in which they first come."""
    counts = {}
    for crossing in crossings_that_show(cloth, thread):
        colour = _colour_at(rows, crossing)
        counts[colour] = counts.get(colour, 0) + 1
    return list(counts.items())


def nearest(cloth, rows):
    """Return the least number of wrong crossings of all plans, and a plan that has it."""
    found = tallies(cloth, rows)
    # A thread that no crossing shows may have any colour.
    spare = [(rows[0][0], 0)]
    best = [max(counts or spare, key=_number_of) for counts in found]
    shown = sum([count for _, count in best])
    return len(cloth) * len(cloth[0]) - shown, _plan_from(cloth, [colour for colour, _ in best])


def _number_of(pair):
    return pair[1]


def accept_nearest(cloth, rows, told):
    """Raise PaperError unless a value is a right answer of nearest."""
    _check_picture(cloth, rows)
    if not is_row(told, 2) or not is_integer(told[0]):
        raise PaperError("form")
    wrong, plan = told
    if not is_plan(cloth, plan):
        raise PaperError("plan")
    if wrong != _wrong_crossings(cloth, rows, plan):
        raise PaperError("wrong")
    for counts, colour in zip(tallies(cloth, rows), [*plan[0], *plan[1]]):
        if _could_be_nearer(counts, colour):
            raise PaperError("least")


def _wrong_crossings(cloth, rows, plan):
    told = picture(cloth, plan)
    return sum([1 for row, seen in zip(rows, told) for colour, shown in zip(row, seen) if colour != shown])


def _could_be_nearer(counts, colour):
    has = sum([count for other, count in counts if other == colour])
    return any([count > has for _, count in counts])
