"""Threading a loom anew with as few moved ends as can be."""

from hangstogether.checks import is_threading
from hangstogether.errors import ArgumentError, PaperError
from hangstogether.kinds import is_integer, is_number, is_order, is_row
from hangstogether.limits import MAX_SHAFTS


def _check_arguments(now, wanted, shafts):
    if not is_number(shafts, 1, MAX_SHAFTS):
        raise ArgumentError("shafts")
    if not is_threading(now, shafts):
        raise ArgumentError("now")
    if not is_threading(wanted, shafts) or len(wanted) != len(now):
        raise ArgumentError("wanted")


def _moves_of(now, wanted, shafts):
    """Return for each wanted shaft and each shaft of the loom how many ends must be moved if the one is the other."""
    stay = list(zip(wanted, now))
    return [
        [wanted.count(group) - stay.count((group, place)) for place in range(shafts)] for group in range(shafts)
    ]


def _moved_by(moves, order):
    return sum([row[place] for row, place in zip(moves, order)])


class Exchanges:
    """Wanted shafts that take the places of others in an order, each giving up its own place.

    A way leads from a wanted shaft to the one whose place it takes. It costs as many moves as this takes more.
    """

    def __init__(self, moves, order):
        self.moves = moves
        self.order = order
        # What the cheapest ways that were found cost up to each wanted shaft, and the one before it on the way.
        self.costs = [0 for _ in order]
        self.before = [None for _ in order]

    def improve(self):
        """Look for cheaper ways with one step more, and return the last shaft to which one leads, or None."""
        last = None
        for group, place in enumerate(self.order):
            for further, other in enumerate(self.order):
                cost = self.costs[group] + self.moves[group][other] - self.moves[group][place]
                if cost < self.costs[further]:
                    self.costs[further] = cost
                    self.before[further] = group
                    last = further
        return last

    def saving_round(self):
        """Return wanted shafts of which each takes the place of the one before it, so that moves are saved, or None.

        If there is none, the costs are those of the cheapest ways.
        """
        last = None
        for _ in self.order:
            last = self.improve()
            if last is None:
                return None
        # A way with as many steps as there are shafts goes round somewhere, and is cheaper by that.
        for _ in self.order:
            last = self.before[last]
        found = [last]
        while self.before[found[-1]] != last:
            found.append(self.before[found[-1]])
        return found


def rethread(now, wanted, shafts):
    """Return the fewest ends that must be moved, an order that moves so few, and prices that show it."""
    _check_arguments(now, wanted, shafts)
    moves = _moves_of(now, wanted, shafts)
    order = list(range(shafts))
    exchanges = Exchanges(moves, order)
    found = exchanges.saving_round()
    while found is not None:
        order = _with_round(order, found)
        exchanges = Exchanges(moves, order)
        found = exchanges.saving_round()
    return _moved_by(moves, order), tuple(order), _prices_of(moves, order, exchanges.costs)


def _with_round(order, found):
    """Return the order in which each wanted shaft of a round takes the place of the one before it."""
    changed = list(order)
    for further, group in zip(found, [*found[1:], found[0]]):
        changed[group] = order[further]
    return changed


def _prices_of(moves, order, costs):
    """Return the prices of the wanted shafts and of the places, from what the cheapest ways cost."""
    groups = [row[place] - cost for row, place, cost in zip(moves, order, costs)]
    places = [costs[order.index(place)] for place in range(len(order))]
    return tuple(groups), tuple(places)


def accept_rethread(now, wanted, shafts, told):
    """Raise PaperError unless a value is a right answer of rethread."""
    _check_arguments(now, wanted, shafts)
    if not is_row(told, 3) or not is_integer(told[0]) or not _are_numbers_twice(told[2], shafts):
        raise PaperError("form")
    number, order, prices = told
    if not is_order(order, shafts):
        raise PaperError("order")
    moves = _moves_of(now, wanted, shafts)
    if number != _moved_by(moves, order):
        raise PaperError("moves")
    if not _bear_out(moves, number, prices):
        raise PaperError("prices")


def _are_numbers_twice(value, size):
    return is_row(value, 2) and all([is_row(row, size) and all([is_integer(part) for part in row]) for row in value])


def _bear_out(moves, number, prices):
    """Tell whether prices are together the number, and no two of them more than what must be moved."""
    groups, places = prices
    if sum(groups) + sum(places) != number:
        return False
    pairs = [(row[place], price + worth) for row, price in zip(moves, groups) for place, worth in enumerate(places)]
    return all([together <= moved for moved, together in pairs])
