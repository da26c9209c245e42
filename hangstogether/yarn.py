"""How much yarn a cloth takes, from which cones it is wound, and how its price is shared."""

from hangstogether.checks import check_cloth
from hangstogether.colours import is_plan
from hangstogether.errors import ArgumentError, PaperError
from hangstogether.floats import interlacings
from hangstogether.kinds import is_integer, is_number, is_row
from hangstogether.limits import MAX_COIN, MAX_CONES, MAX_GAP, MAX_LENGTHS, MAX_REPEATS
from hangstogether.ratios import brought_to, common_under, fraction, is_fraction
from hangstogether.subsets import places_in, without
from hangstogether.threads import threads_of


def bends(cloth):
    """Return for each thread how often it bends in a repeat."""
    # It bends where one float ends and the next one begins.
    return interlacings(cloth)


def _check_measures(measures):
    if not is_row(measures, 3) or not is_row(measures[2], 2):
        raise ArgumentError("measures")
    picks, ends, (over, under) = measures
    if not all([is_number(gap, 1, MAX_GAP) for gap in (picks, ends, under)]) or not is_number(over, 0, MAX_GAP):
        raise ArgumentError("measures")


def lengths(cloth, measures):
    """Return the lengths of all threads in a repeat."""
    check_cloth(cloth)
    _check_measures(measures)
    picks, ends, (over, under) = measures
    straight = {"end": len(cloth) * picks, "pick": len(cloth[0]) * ends}
    return tuple([
        fraction(straight[kind] * under + count * over, under)
        for (kind, _), count in zip(threads_of(cloth), bends(cloth))
    ])


def amounts(cloth, plan, measures, repeats):
    """Return for each colour of a plan the length of all its threads in so many repeats."""
    check_cloth(cloth)
    if not is_plan(cloth, plan):
        raise ArgumentError("plan")
    _check_measures(measures)
    if not is_row(repeats, 2) or not all([is_number(part, 1, MAX_REPEATS) for part in repeats]):
        raise ArgumentError("repeats")
    found = lengths(cloth, measures)
    under = common_under(found)
    sums = {}
    for colour, length in zip([*plan[0], *plan[1]], brought_to(under, found)):
        sums[colour] = sums.get(colour, 0) + length * repeats[0] * repeats[1]
    return tuple([(colour, fraction(over, under)) for colour, over in sums.items()])


def whole_cones(length, cone):
    """Return how many cones a length takes at least, and what is left of them."""
    if not is_fraction(length):
        raise ArgumentError("lengths")
    if not is_number(cone, 1, MAX_COIN):
        raise ArgumentError("cone")
    over, under = length
    # Rounded up.
    count = -(-over // (under * cone))
    return count, fraction(count * cone * under - over, under)


def _are_lengths(value):
    return isinstance(value, tuple) and len(value) <= MAX_LENGTHS and all([is_fraction(part) for part in value])


def _check_cones(rows, cones):
    if not _are_lengths(rows):
        raise ArgumentError("lengths")
    if not isinstance(cones, tuple) or len(cones) > MAX_CONES:
        raise ArgumentError("cones")
    if not all([is_number(cone, 1, MAX_COIN) for cone in cones]):
        raise ArgumentError("cones")


class Winding:
    """Lengths and cones in whole numbers of one part, and the table of the sets of lengths in these."""

    def __init__(self, rows, cones):
        self.under = common_under(rows)
        self.rows = brought_to(self.under, rows)
        self.cones = [cone * self.under for cone in cones]
        self.table = [(0, 0)]
        for number in range(1, 1 << len(rows)):
            found = [self.behind(without(number, place), place) for place in places_in(number)]
            self.table.append(min([entry for entry in found if entry is not None], default=None))

    def behind(self, number, place):
        """Return the entry of a set with a further length put behind it, or None."""
        if self.table[number] is None:
            return None
        cone, used = self.table[number]
        length = self.rows[place]
        if cone < len(self.cones) and used + length <= self.cones[cone]:
            return cone, used + length
        for further in range(cone + 1, len(self.cones)):
            if length <= self.cones[further]:
                return further, length
        return None

    def last_one(self, number):
        """Return a length of a set that can be put behind the others to make the entry of the set."""
        entry = self.table[number]
        return [place for place in places_in(number) if self.behind(without(number, place), place) == entry][0]


def cone_table(rows, cones):
    """Return for each set of lengths the cone that is the last one used, and how much of it is used."""
    _check_cones(rows, cones)
    winding = Winding(rows, cones)
    return tuple([
        None if entry is None else (entry[0], fraction(entry[1], winding.under)) for entry in winding.table
    ])


def wound(rows, cones):
    """Return for each length the place of the cone from which it is wound, or None."""
    _check_cones(rows, cones)
    winding = Winding(rows, cones)
    if winding.table[-1] is None:
        return None
    places = {}
    number = len(winding.table) - 1
    while number > 0:
        place = winding.last_one(number)
        places[place] = winding.table[number][0]
        number = without(number, place)
    return tuple([places[place] for place in range(len(rows))])


def accept_cone_table(rows, cones, table):
    """Raise PaperError unless a value is the table of lengths and cones."""
    _check_cones(rows, cones)
    if not is_row(table, 1 << len(rows)) or not all([part is None or _is_entry(part) for part in table]):
        raise PaperError("form")
    if table != cone_table(rows, cones):
        raise PaperError("entry")


def _is_entry(value):
    return is_row(value, 2) and is_integer(value[0]) and is_fraction(value[1])


def costs(rows, price):
    """Return a price shared by lengths, each coin in one share."""
    if not _are_lengths(rows) or not any([over > 0 for over, _ in rows]):
        raise ArgumentError("lengths")
    if not is_number(price, 0, MAX_COIN):
        raise ArgumentError("price")
    parts = brought_to(common_under(rows), rows)
    whole = sum(parts)
    shares = [price * part // whole for part in parts]
    rests = sorted([(-(price * part % whole), place) for place, part in enumerate(parts)])
    favoured = [place for _, place in rests[:price - sum(shares)]]
    return tuple([share + 1 if place in favoured else share for place, share in enumerate(shares)])
