"""The fewest colours with which pairs of crossings look unlike."""

from hangstogether.checks import check_cloth
from hangstogether.crossings import is_crossing, shown_at
from hangstogether.errors import ArgumentError, PaperError, TooMany
from hangstogether.kinds import is_integer, is_number, is_row
from hangstogether.limits import MAX_CHOICES, MAX_PAIRS
from hangstogether.threads import threads_of


def _check_arguments(cloth, pairs):
    check_cloth(cloth)
    if not isinstance(pairs, tuple) or len(pairs) > MAX_PAIRS:
        raise ArgumentError("pairs")
    for pair in pairs:
        if not is_row(pair, 2) or not is_crossing(cloth, pair[0]) or not is_crossing(cloth, pair[1]):
            raise ArgumentError("pairs")


def _shown_pairs(cloth, pairs):
    return [(shown_at(cloth, first), shown_at(cloth, second)) for first, second in pairs]


def _shows_one_twice(shown):
    return any([first == second for first, second in shown])


def _asked_threads(cloth, shown):
    asked = {thread: True for pair in shown for thread in pair}
    return [thread for thread in threads_of(cloth) if thread in asked]


def _earlier_ones(asked, shown):
    """Return for each asked thread the places of those before it that must have another colour."""
    places = [sorted([asked.index(thread) for thread in pair]) for pair in shown]
    return [[low for low, high in places if high == place] for place in range(len(asked))]


def _further_colours(earlier, row, number):
    """Return the colours below a number by which a row of choices that is not whole may be made longer."""
    greatest = max(row, default=-1)
    barred = [row[place] for place in earlier[len(row)]]
    return [colour for colour in range(min(greatest + 2, number)) if colour not in barred]


def fewest_colours(cloth, pairs):
    """Return the fewest colours, a plan of them, and the paper that one less is not enough, or None."""
    _check_arguments(cloth, pairs)
    shown = _shown_pairs(cloth, pairs)
    if _shows_one_twice(shown):
        return None
    asked = _asked_threads(cloth, shown)
    earlier = _earlier_ones(asked, shown)
    number = 1
    row = _first_whole(earlier, number)
    while row is None:
        number += 1
        row = _first_whole(earlier, number)
    paper = () if number == 1 else _paper(earlier, (), number - 1)
    return number, _plan_with(cloth, asked, row), paper


def _first_whole(earlier, number):
    """Return the first whole row of choices of so many colours, or None."""
    looked_at = 0
    waiting = [()]
    while waiting:
        row = waiting.pop()
        if len(row) == len(earlier):
            return row
        looked_at += 1
        if looked_at > MAX_CHOICES:
            raise TooMany("choices")
        for colour in reversed(_further_colours(earlier, row, number)):
            waiting.append((*row, colour))
    return None


def _plan_with(cloth, asked, row):
    chosen = {thread: colour for thread, colour in zip(asked, row)}
    colours = [chosen.get(thread, 0) for thread in threads_of(cloth)]
    ends = len(cloth[0])
    return tuple(colours[:ends]), tuple(colours[ends:])


def _paper(earlier, row, number):
    colours = _further_colours(earlier, row, number)
    return tuple([_paper(earlier, (*row, colour), number) for colour in colours])


def accept_colours(cloth, pairs, told):
    """Raise PaperError unless a value is a right answer of fewest_colours."""
    _check_arguments(cloth, pairs)
    shown = _shown_pairs(cloth, pairs)
    if _shows_one_twice(shown):
        if told is not None:
            raise PaperError("form")
        return
    if not is_row(told, 3) or not is_integer(told[0]) or told[0] < 1:
        raise PaperError("form")
    number, plan, paper = told
    if not _is_plan(cloth, plan, number) or not _looks_unlike(plan, shown):
        raise PaperError("plan")
    earlier = _earlier_ones(_asked_threads(cloth, shown), shown)
    if number == 1:
        if paper != ():
            raise PaperError("paper")
    elif not _is_paper(earlier, (), number - 1, paper):
        raise PaperError("paper")


def _is_plan(cloth, value, number):
    return is_row(value, 2) and _are_below(value[0], len(cloth[0]), number) and _are_below(value[1], len(cloth), number)


def _are_below(value, count, number):
    return is_row(value, count) and all([is_number(part, 0, number - 1) for part in value])


def _looks_unlike(plan, shown):
    warp, weft = plan
    colours = {"end": warp, "pick": weft}
    return all([colours[first[0]][first[1]] != colours[second[0]][second[1]] for first, second in shown])


def _is_paper(earlier, row, number, told):
    # A whole row may not be made longer either, but it shows that there are colours enough.
    if not isinstance(told, tuple) or len(row) == len(earlier):
        return False
    colours = _further_colours(earlier, row, number)
    if len(told) != len(colours):
        return False
    for colour, part in zip(colours, told):
        if not _is_paper(earlier, (*row, colour), number, part):
            return False
    return True
