"""Points 107 to 110: the nearest cloth."""

import itertools

from hangstogether.drafts import needs
from hangstogether.errors import ArgumentError, ClothError
from hangstogether.nearest import accept_near_table, near_table, nearest, unlike_crossings
from tests.helpers import ODD_VALUES, WeaveTest, all_cloths, some_cloths, variants

CLOTH = ((1, 1, 0), (1, 0, 0))
EIGHT = ((0,) * 8,)


def slow_wrong(cloth, groups):
    """Return the fewest wrong crossings if the ends of each group are put on one shaft."""
    count = 0
    for row in cloth:
        for ends in groups:
            count += min([len([end for end in ends if row[end] != digit]) for digit in (0, 1)])
    return count


def slow_entry(cloth, ends, shafts):
    """Return an entry by trying all ways to put the ends on the shafts."""
    if not ends:
        return 0
    if shafts == 0:
        return None
    found = []
    # More shafts than ends are of no use.
    for places in itertools.product(range(min(shafts, len(ends))), repeat=len(ends)):
        groups = [[end for end, place in zip(ends, places) if place == shaft] for shaft in set(places)]
        found.append(slow_wrong(cloth, groups))
    return min(found)


def slow_table(cloth, shafts):
    ends = range(len(cloth[0]))
    sets = [[end for end in ends if number & 2 ** end] for number in range(2 ** len(ends))]
    return tuple([tuple([slow_entry(cloth, some, count) for some in sets]) for count in range(shafts + 1)])


class NearestTest(WeaveTest):
    def is_nearest(self, cloth, shafts, fewest):
        number, told = nearest(cloth, shafts)
        self.assertEqual((number, unlike_crossings(cloth, told)), (fewest, fewest))
        self.assertLessEqual(needs(told)[0], shafts)

    def test_examples(self):
        self.assertEqual((nearest(CLOTH, 2)[0], nearest(CLOTH, 1)[0]), (1, 2))
        self.assertEqual(nearest(CLOTH, 3), (0, CLOTH))
        self.assertEqual(nearest(CLOTH, 16), (0, CLOTH))
        self.assertEqual(nearest(((1,),), 1), (0, ((1,),)))

    def test_tables(self):
        self.assertEqual(near_table(((1,),), 1), ((0, None), (0, 0)))
        self.assertEqual(near_table(((1, 0), (1, 1)), 2), ((0, None, None, None), (0, 0, 0, 1), (0, 0, 0, 0)))
        self.assertEqual(near_table(CLOTH, 1), ((0,) + (None,) * 7, (0, 0, 0, 1, 0, 2, 1, 2)))

    def test_beside_trying_all_ways(self):
        cloths = all_cloths(2, 2) + all_cloths(2, 3) + all_cloths(3, 2) + all_cloths(1, 4) + some_cloths(151, 80, 5)
        for cloth in cloths:
            for shafts in (1, 2, 3):
                table = near_table(cloth, shafts)
                self.assertEqual(table, slow_table(cloth, shafts))
                self.assertIsNone(accept_near_table(cloth, shafts, table))
                self.is_nearest(cloth, shafts, table[-1][-1])

    def test_beside_all_cloths(self):
        # The nearest one of all cloths that can be woven with so many shafts.
        every = all_cloths(2, 3)
        for cloth in every:
            for shafts in (1, 2, 3):
                fewest = min([unlike_crossings(cloth, other) for other in every if needs(other)[0] <= shafts])
                self.is_nearest(cloth, shafts, fewest)

    def test_greatest(self):
        for seven in [cloth for cloth in some_cloths(152, 2000, 24) if len(cloth[0]) == 7][:3]:
            for shafts in (1, 2, 4, 16):
                ends = list(range(7))
                fewest = slow_entry(seven, ends, min(shafts, 4)) if shafts < 16 else 0
                self.is_nearest(seven, shafts, fewest)
                table = near_table(seven, shafts)
                self.assertEqual((len(table), {len(row) for row in table}), (shafts + 1, {128}))
                self.assertIsNone(accept_near_table(seven, shafts, table))

    def test_wrong_arguments(self):
        functions = (near_table, nearest, lambda cloth, shafts: accept_near_table(cloth, shafts, None))
        for function in functions:
            self.refuses(ClothError, "form", function, None, None)
            self.refuses(ClothError, "crossing", function, ((0,) * 7 + (2,),), 0)
            self.refuses(ArgumentError, "size", function, EIGHT, 2)
            self.refuses(ArgumentError, "size", function, EIGHT, 0)
            for shafts in (0, 17, -1, True, None, "1", (1,), 10 ** 30):
                self.refuses(ArgumentError, "shafts", function, CLOTH, shafts)
            self.stands_any_values(function, CLOTH, 2)
        self.assertEqual(nearest(((0,) * 7,), 1)[0], 0)


class AcceptTest(WeaveTest):
    def reason(self, cloth, shafts, table):
        if type(table) is not tuple or len(table) != shafts + 1:
            return "form"
        for row in table:
            if type(row) is not tuple or len(row) != 2 ** len(cloth[0]) or not {type(part) for part in row} <= {int, type(None)}:
                return "form"
        return None if table == slow_table(cloth, shafts) else "entry"

    def test_changed_tables(self):
        for cloth, shafts in ((CLOTH, 2), (CLOTH, 1), (((1,),), 1), (((1, 0), (0, 1)), 3)):
            for table in [*variants(near_table(cloth, shafts)), *ODD_VALUES]:
                self.judges(self.reason(cloth, shafts, table), accept_near_table, cloth, shafts, table)

    def test_other_tables(self):
        table = near_table(CLOTH, 2)
        self.judges("form", accept_near_table, CLOTH, 1, table)
        self.judges("form", accept_near_table, ((0, 1),), 2, table)
        self.judges("entry", accept_near_table, ((0, 1, 0),), 2, table)
        self.judges("entry", accept_near_table, CLOTH, 2, ((None,) * 8,) * 3)
        self.stands_any_values(accept_near_table, CLOTH, 2, table)


class UnlikeCrossingsTest(WeaveTest):
    def test_examples(self):
        self.assertEqual(unlike_crossings(CLOTH, CLOTH), 0)
        self.assertEqual(unlike_crossings(((1, 0), (0, 1)), ((0, 1), (1, 0))), 4)
        for one, other in itertools.product(all_cloths(2, 2), repeat=2):
            flat = zip(sum(one, ()), sum(other, ()))
            self.assertEqual(unlike_crossings(one, other), len([1 for part, wanted in flat if part != wanted]))

    def test_wrong_arguments(self):
        self.refuses(ClothError, "form", unlike_crossings, None, ())
        self.refuses(ClothError, "picks", unlike_crossings, CLOTH, ())
        self.refuses(ClothError, "crossing", unlike_crossings, CLOTH, ((True,),))
        for other in (((1, 1, 0),), ((1, 1), (1, 0)), CLOTH + CLOTH[:1], tuple(zip(*CLOTH))):
            self.refuses(ArgumentError, "size", unlike_crossings, CLOTH, other)
            self.refuses(ArgumentError, "size", unlike_crossings, other, CLOTH)
        self.stands_any_values(unlike_crossings, CLOTH, CLOTH)
