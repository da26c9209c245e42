"""Plans of lifted shafts, and chains of pegs that make them."""

from math import lcm

from hangstogether.checks import check_draft
from hangstogether.errors import ArgumentError, PaperError, TooMany
from hangstogether.kinds import ascends, is_number, is_row, is_table
from hangstogether.limits import MAX_DEEP, MAX_PICKS, MAX_SHAFTS
from hangstogether.rounds import period_of


def _is_row_of_shafts(value):
    return ascends(value, MAX_SHAFTS)


def _check_plan(plan):
    if not isinstance(plan, tuple) or not 1 <= len(plan) <= MAX_PICKS:
        raise ArgumentError("plan")
    if not all([_is_row_of_shafts(row) for row in plan]):
        raise ArgumentError("plan")


def plan_of(draft):
    """Return the plan of a draft: the shafts that are lifted for each pick."""
    check_draft(draft)
    _, tieup, treadling = draft
    return tuple([_together([tieup[treadle] for treadle in pressed]) for pressed in treadling])


def _together(rows):
    return tuple(sorted({shaft for row in rows for shaft in row}))


def period(plan):
    """Return the least number of picks behind which a plan begins anew."""
    _check_plan(plan)
    return period_of(plan)


def joined(first, second):
    """Return the plan of two plans that go round side by side."""
    _check_plan(first)
    _check_plan(second)
    picks = lcm(period_of(first), period_of(second))
    if picks > MAX_PICKS:
        raise TooMany("picks")
    return tuple([_together([first[pick % len(first)], second[pick % len(second)]]) for pick in range(picks)])


def _check_chain(chain):
    if not _is_chain(chain, MAX_DEEP):
        raise ArgumentError("chain")
    if _picks_of(chain) > MAX_PICKS:
        raise TooMany("picks")


def _is_chain(value, deep):
    """Tell whether a value is a chain with at most so many chains within one another."""
    if deep == 0 or not isinstance(value, tuple) or len(value) == 0:
        return False
    return all([_is_row_of_shafts(part) or _is_repeat(part, deep) for part in value])


def _is_repeat(value, deep):
    return is_row(value, 2) and is_number(value[0], 2, MAX_PICKS) and _is_chain(value[1], deep - 1)


def _picks_of(chain):
    return sum([1 if _is_row_of_shafts(part) else part[0] * _picks_of(part[1]) for part in chain])


def unrolled(chain):
    """Return the plan that a chain of pegs makes."""
    _check_chain(chain)
    return tuple(_unrolled(chain))


def _unrolled(chain):
    rows = []
    for part in chain:
        if _is_row_of_shafts(part):
            rows.append(part)
        else:
            rows += _unrolled(part[1]) * part[0]
    return rows


def size(chain):
    """Return the number of rows and repeats of a chain of pegs."""
    _check_chain(chain)
    return _size(chain)


def _size(chain):
    return sum([1 if _is_row_of_shafts(part) else 1 + _size(part[1]) for part in chain])


def _shorter_ones(plan, begin, picks):
    """Return the numbers of picks of the shorter parts that make a part when they are repeated."""
    part = plan[begin:begin + picks]
    return [count for count in range(1, picks) if part[:count] * (picks // count) == part]


def _least_sizes(plan):
    """Return the least size for each part of a plan, by its first pick and its number of picks."""
    best = {}
    for picks in range(1, len(plan) + 1):
        for begin in range(len(plan) - picks + 1):
            found = [1] if picks == 1 else []
            found += [best[begin, cut] + best[begin + cut, picks - cut] for cut in range(1, picks)]
            found += [best[begin, count] + 1 for count in _shorter_ones(plan, begin, picks)]
            best[begin, picks] = min(found)
    return best


def shortest(plan):
    """Return the least size of a chain that makes a plan, and such a chain."""
    _check_plan(plan)
    best = _least_sizes(plan)
    return best[0, len(plan)], _chain_for(plan, best, 0, len(plan))


def _chain_for(plan, best, begin, picks):
    if picks == 1:
        return (plan[begin],)
    for count in _shorter_ones(plan, begin, picks):
        if best[begin, count] + 1 == best[begin, picks]:
            return ((picks // count, _chain_for(plan, best, begin, count)),)
    cut = 1
    while best[begin, cut] + best[begin + cut, picks - cut] != best[begin, picks]:
        cut += 1
    return _chain_for(plan, best, begin, cut) + _chain_for(plan, best, begin + cut, picks - cut)


def chain_table(plan):
    """Return for each part of a plan the least size of a chain that makes it."""
    _check_plan(plan)
    best = _least_sizes(plan)
    return tuple([
        tuple([best[begin, picks] for picks in range(1, len(plan) - begin + 1)]) for begin in range(len(plan))
    ])


def accept_chain_table(plan, table):
    """Raise PaperError unless a value is the table of a plan."""
    _check_plan(plan)
    if not is_table(table, [len(plan) - begin for begin in range(len(plan))]):
        raise PaperError("form")
    if table != chain_table(plan):
        raise PaperError("entry")
