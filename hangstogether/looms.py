"""The order in which warps are woven on a loom."""

from hangstogether.checks import is_draft
from hangstogether.errors import ArgumentError, PaperError
from hangstogether.kinds import is_integer, is_number, is_row
from hangstogether.limits import MAX_JOBS
from hangstogether.subsets import places_in, without

_GREATEST_PRICE = 1000


def _is_job(value):
    if not is_row(value, 3):
        return False
    name, draft, beam = value
    return isinstance(name, str) and is_draft(draft) and isinstance(beam, str)


def _check_prices(prices):
    if not is_row(prices, 3) or not all([is_number(price, 0, _GREATEST_PRICE) for price in prices]):
        raise ArgumentError("prices")


def _check_jobs(jobs, prices):
    if not isinstance(jobs, tuple) or not 1 <= len(jobs) <= MAX_JOBS or not all([_is_job(job) for job in jobs]):
        raise ArgumentError("jobs")
    if len({job[0] for job in jobs}) < len(jobs):
        raise ArgumentError("jobs")
    _check_prices(prices)


def change(first, second, prices):
    """Return what it costs to weave a job behind another one."""
    if not _is_job(first) or not _is_job(second):
        raise ArgumentError("jobs")
    _check_prices(prices)
    return _cost(first, second, prices)


def _cost(first, second, prices):
    _, (threading, tieup, _), beam = first
    _, (further, ties, _), other = second
    for_beam, for_end, for_tie = prices
    unlike = len(set(_ties_of(tieup)) ^ set(_ties_of(ties)))
    if beam == other:
        return for_end * _unlike_places(threading, further) + for_tie * unlike
    return for_beam + for_end * len(further) + for_tie * unlike


def _ties_of(tieup):
    return [(treadle, shaft) for treadle, shafts in enumerate(tieup) for shaft in shafts]


def _unlike_places(threading, further):
    both = [1 for shaft, other in zip(threading, further) if shaft != other]
    return len(both) + abs(len(threading) - len(further))


def order_table(jobs, prices):
    """Return for each set of jobs and each of these the least cost of an order of the set that ends with it."""
    _check_jobs(jobs, prices)
    changes = [[_cost(job, other, prices) for other in jobs] for job in jobs]
    table = []
    for number in range(1 << len(jobs)):
        row = [None] * len(jobs)
        for last in places_in(number):
            found = _costs_before(table, changes, without(number, last), last)
            row[last] = min(found, default=0)
        table.append(tuple(row))
    return tuple(table)


def _costs_before(table, changes, number, last):
    """Return what orders of a set cost with one job more, for each job of the set in front of this one."""
    return [table[number][place] + changes[place][last] for place in places_in(number)]


def least_order(jobs, prices):
    """Return the least cost of all orders of jobs, and the names in such an order."""
    table = order_table(jobs, prices)
    number = len(table) - 1
    least = min(table[number])
    place = table[number].index(least)
    order = [place]
    while without(number, place) > 0:
        number = without(number, place)
        before = [
            (table[number][other] + _cost(jobs[other], jobs[place], prices), other) for other in places_in(number)
        ]
        place = min(before)[1]
        order.append(place)
    return least, tuple([jobs[place][0] for place in order[::-1]])


def accept_order_table(jobs, prices, table):
    """Raise PaperError unless a value is the table of jobs."""
    _check_jobs(jobs, prices)
    if not is_row(table, 1 << len(jobs)):
        raise PaperError("form")
    for number, row in enumerate(table):
        if not is_row(row, len(jobs)) or not _tells_members(row, number):
            raise PaperError("form")
    if table != order_table(jobs, prices):
        raise PaperError("entry")


def _tells_members(row, number):
    members = places_in(number)
    return all([is_integer(part) if place in members else part is None for place, part in enumerate(row)])


def cost_of_order(jobs, prices, names):
    """Return what an order of jobs costs."""
    _check_jobs(jobs, prices)
    told = {job[0]: job for job in jobs}
    if not is_row(names, len(jobs)) or not all([isinstance(name, str) and name in told for name in names]):
        raise ArgumentError("names")
    if len(set(names)) < len(names):
        raise ArgumentError("names")
    order = [told[name] for name in names]
    return sum([_cost(job, further, prices) for job, further in zip(order, order[1:])])
