"""Points 121 to 124: warping with few holders."""

import itertools
import random

from hangstogether.errors import ArgumentError
from hangstogether.holders import accept_load_table, by_rule, fewest_loads, load_table, loads_of
from tests.helpers import ODD_VALUES, WeaveTest, variants

WARP = ("r", "g", "r", "b", "r", "g")
SIX = tuple("abcdef")


def unlike_ones(colours):
    return sorted(set(colours), key=colours.index)


def sets_of(colours, holders, end):
    """Return the sets that may be held at an end, as lists of colours, in ascending order of their numbers."""
    unlike = unlike_ones(colours)
    found = []
    for number in range(2 ** len(unlike)):
        held = [colour for place, colour in enumerate(unlike) if number & 2 ** place]
        if len(held) <= holders and colours[end] in held:
            found.append(held)
    return found


def slow_loads(held, before=()):
    count = 0
    for part in held:
        count += len(set(part) - set(before))
        before = part
    return count


def slow_table(colours, holders):
    """Return the table as point 122 tells it, with sets of Python's own."""
    rows = []
    for end in range(len(colours))[::-1]:
        row = []
        for held in sets_of(colours, holders, end):
            if end == len(colours) - 1:
                row.append(0)
            else:
                behind = zip(sets_of(colours, holders, end + 1), rows[-1])
                row.append(min([len(set(further) - set(held)) + entry for further, entry in behind]))
        rows.append(tuple(row))
    return tuple(rows[::-1])


def all_held(colours, holders):
    return itertools.product(*[sets_of(colours, holders, end) for end in range(len(colours))])


def slow_rule(colours, holders):
    told, held = [], []
    for end, colour in enumerate(colours):
        if colour not in held:
            if len(held) == holders:
                comes = {other: [*colours[end + 1:], other].index(other) for other in held}
                held.remove(max(held, key=lambda other: (comes[other], -held.index(other))))
            held.append(colour)
        told.append(tuple(held))
    return tuple(told)


def some_warps(seed, count, most, colours):
    chance = random.Random(seed)
    return [
        (tuple([chance.choice(SIX[:colours]) for _ in range(chance.randint(1, most))]), chance.randint(1, 6))
        for _ in range(count)
    ]


class LoadsTest(WeaveTest):
    def is_fewest(self, colours, holders, fewest):
        number, held = fewest_loads(colours, holders)
        self.assertEqual((number, slow_loads(held), loads_of(colours, holders, held)), (fewest, fewest, fewest))
        self.assertEqual(len(held), len(colours))
        for end, part in enumerate(held):
            self.assertIsInstance(part, tuple)
            # In the order in which they first come in the warp.
            self.assertIn(list(part), sets_of(colours, holders, end))

    def test_examples(self):
        self.assertEqual((fewest_loads(WARP, 2)[0], fewest_loads(WARP, 1)[0]), (4, 6))
        self.assertEqual(fewest_loads(("r",), 1), (1, (("r",),)))
        self.assertEqual(fewest_loads(("r",) * 24, 6)[0], 1)
        self.assertEqual(fewest_loads(WARP, 3)[0], 3)

    def test_tables(self):
        self.assertEqual(load_table(("r",), 1), ((0,),))
        self.assertEqual(load_table(("r", "g"), 1), ((1,), (0,)))
        self.assertEqual(load_table(("r", "g"), 2), ((1, 0), (0, 0)))
        self.assertEqual(load_table(("r", "g", "r"), 2), ((1, 0), (1, 0), (0, 0)))
        self.assertEqual(load_table(("r", "g", "b"), 2), ((2, 1, 1), (1, 1, 0), (0, 0, 0)))

    def test_beside_all_sets(self):
        for colours, holders in some_warps(201, 150, 5, 3) + some_warps(202, 25, 4, 4):
            fewest = min([slow_loads(held) for held in all_held(colours, holders)])
            self.is_fewest(colours, holders, fewest)
            self.assertEqual(slow_loads(by_rule(colours, holders)), fewest)
            table = load_table(colours, holders)
            first = zip(sets_of(colours, holders, 0), table[0])
            self.assertEqual(min([len(held) + entry for held, entry in first]), fewest)

    def test_entries_beside_all_sets(self):
        for colours, holders in some_warps(203, 40, 4, 3):
            table = load_table(colours, holders)
            for end in range(len(colours)):
                rest = [sets_of(colours, holders, further) for further in range(end + 1, len(colours))]
                for held, entry in zip(sets_of(colours, holders, end), table[end]):
                    self.assertEqual(entry, min([slow_loads(ways, held) for ways in itertools.product(*rest)]))

    def test_longer_warps(self):
        for colours, holders in some_warps(204, 60, 24, 6) + [(SIX * 4, 3), (SIX * 4, 6), (SIX[::-1] * 4, 1)]:
            table = load_table(colours, holders)
            self.assertEqual(table, slow_table(colours, holders))
            self.assertIsNone(accept_load_table(colours, holders, table))
            self.is_fewest(colours, holders, slow_loads(by_rule(colours, holders)))

    def test_one_holder_and_more_than_colours(self):
        for colours, _ in some_warps(205, 60, 12, 4):
            changes = 1 + len([1 for one, other in zip(colours, colours[1:]) if one != other])
            self.is_fewest(colours, 1, changes)
            for holders in range(len(set(colours)), 7):
                self.is_fewest(colours, holders, len(set(colours)))

    def test_wrong_arguments(self):
        functions = (
            fewest_loads, load_table, by_rule, lambda colours, holders: accept_load_table(colours, holders, None),
            lambda colours, holders: loads_of(colours, holders, None),
        )
        wrong = [None, 0, "rg", (), list(WARP), ("",), ("r", ""), ("r" * 13,), ("r", None), ("r", 0), ("r", ("g",))]
        for function in functions:
            for colours in [*wrong, ("r",) * 25, (*SIX, "g")]:
                self.refuses(ArgumentError, "colours", function, colours, 2)
                self.refuses(ArgumentError, "colours", function, colours, 0)
            for holders in (0, 7, -1, True, None, "1", (1,), 10 ** 30):
                self.refuses(ArgumentError, "holders", function, WARP, holders)
            self.stands_any_values(function, WARP, 2)
        self.assertEqual(fewest_loads(("r 1-#%&()\u00e9~x",) * 24, 6)[0], 1)


class RuleTest(WeaveTest):
    def test_examples(self):
        self.assertEqual(by_rule(WARP, 2), (("r",), ("r", "g"), ("r", "g"), ("r", "b"), ("r", "b"), ("b", "g")))
        self.assertEqual(by_rule(WARP, 1), (("r",), ("g",), ("r",), ("b",), ("r",), ("g",)))
        self.assertEqual(by_rule(("r",), 6), (("r",),))
        self.assertEqual(by_rule(tuple("rgbg"), 3), (("r",), ("r", "g"), ("r", "g", "b"), ("r", "g", "b")))

    def test_the_one_that_comes_latest(self):
        self.assertEqual(by_rule(tuple("rgbrg"), 2)[2], ("r", "b"))
        self.assertEqual(by_rule(tuple("rgbgr"), 2)[2], ("g", "b"))
        self.assertEqual(by_rule(tuple("rgbgg"), 2)[2], ("g", "b"))
        # r was loaded anew, so it stands behind b.
        self.assertEqual(by_rule(tuple("rgbgrb"), 2)[3:], (("g", "b"), ("b", "r"), ("b", "r")))

    def test_two_that_never_come(self):
        self.assertEqual(by_rule(tuple("rgb"), 2)[2], ("g", "b"))
        self.assertEqual(by_rule(tuple("rgbw"), 3)[3], ("g", "b", "w"))
        self.assertEqual(by_rule(tuple("rgbwg"), 3)[3], ("g", "b", "w"))
        self.assertEqual(by_rule(tuple("rgbwr"), 3)[3], ("r", "b", "w"))
        # g has been held longest, as r was dropped and loaded again behind it.
        self.assertEqual(by_rule(tuple("rgbgrw"), 2)[3:], (("g", "b"), ("b", "r"), ("r", "w")))

    def test_beside_slow_ones(self):
        for colours, holders in some_warps(206, 300, 24, 6):
            told = by_rule(colours, holders)
            self.assertEqual(told, slow_rule(colours, holders))
            self.assertEqual(loads_of(colours, holders, told), fewest_loads(colours, holders)[0])


class LoadsOfTest(WeaveTest):
    HELD = (("r",), ("g", "r"), ("r", "g"), ("b", "r"), ("r",), ("g", "b"))

    def test_any_order(self):
        self.assertEqual(loads_of(WARP, 2, self.HELD), 5)
        for number, held in enumerate(all_held(WARP, 2)):
            if number % 11 == 0:
                told = tuple([tuple(part) for part in held])
                turned = tuple([part[::-1] for part in told])
                self.assertEqual((loads_of(WARP, 2, told), loads_of(WARP, 2, turned)), (slow_loads(held),) * 2)

    def is_right(self, colours, holders, held):
        if type(held) is not tuple or len(held) != len(colours):
            return False
        for colour, part in zip(colours, held):
            if type(part) is not tuple or len(part) > holders or not all([type(other) is str for other in part]):
                return False
            if len(set(part)) < len(part) or colour not in part or not set(part) <= set(colours):
                return False
        return True

    def test_wrong_held(self):
        for held in [self.HELD, *variants(self.HELD), *ODD_VALUES]:
            if self.is_right(WARP, 2, held):
                self.assertEqual(loads_of(WARP, 2, held), slow_loads(held))
            else:
                self.refuses(ArgumentError, "held", loads_of, WARP, 2, held)
        rest = self.HELD[1:]
        for part in (("g",), ("r", "r"), ("r", "w"), ("r", "g", "b"), ("r", None), ("r", 0), (), ["r"], "r", None):
            self.refuses(ArgumentError, "held", loads_of, WARP, 2, (part, *rest))
        self.assertEqual(loads_of(WARP, 3, (("r", "g", "b"), *rest)), 6)
        self.stands_any_values(loads_of, WARP, 2, self.HELD)


class AcceptTest(WeaveTest):
    def reason(self, colours, holders, table):
        sizes = [len(sets_of(colours, holders, end)) for end in range(len(colours))]
        if type(table) is not tuple or not all([type(row) is tuple for row in table]):
            return "form"
        if [len(row) for row in table] != sizes or not all([type(part) is int for row in table for part in row]):
            return "form"
        return None if table == slow_table(colours, holders) else "entry"

    def test_changed_tables(self):
        for colours, holders in ((WARP, 2), (("r",), 1), (("r", "g", "b"), 6), (("r", "g"), 1)):
            right = load_table(colours, holders)
            for table in [right, *variants(right), *ODD_VALUES]:
                self.judges(self.reason(colours, holders, table), accept_load_table, colours, holders, table)

    def test_other_tables(self):
        table = load_table(WARP, 2)
        self.judges("form", accept_load_table, WARP, 3, table)
        self.judges("form", accept_load_table, WARP[:5], 2, table)
        self.judges("entry", accept_load_table, WARP[::-1], 2, table)
        self.stands_any_values(accept_load_table, WARP, 2, table)
