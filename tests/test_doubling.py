"""Points 59 to 61: cloths one above the other."""

import itertools
import random

from hangstogether.doubling import folded, loosest, stacked, stitched, unstacked
from hangstogether.errors import ArgumentError, ClothError, TooMany
from tests.helpers import WeaveTest, all_cloths, some_cloths

ONE, NONE = ((1,),), ((0,),)
PLAIN = ((1, 0), (0, 1))
TWO = (((1, 0, 0), (0, 1, 1)), ((0, 0, 1), (1, 0, 1)))


def slow_stack(cloths):
    """Return the large cloth, crossing by crossing as point 59 says it."""
    count = len(cloths)
    rows = [[None] * (count * len(cloths[0][0])) for _ in range(count * len(cloths[0]))]
    for upper, lower in itertools.product(range(count), repeat=2):
        for pick, end in itertools.product(range(len(cloths[0])), range(len(cloths[0][0]))):
            if upper == lower:
                rows[pick * count + upper][end * count + upper] = cloths[upper][pick][end]
            elif upper < lower:
                rows[pick * count + lower][end * count + upper] = 1
                rows[pick * count + upper][end * count + lower] = 0
    return tuple([tuple(row) for row in rows])


def all_stitches(cloths):
    count = len(cloths)
    places = itertools.product(range(count * len(cloths[0])), range(count * len(cloths[0][0])))
    return [(pick, end) for pick, end in places if pick % count != end % count]


def some_stacks(seed, count):
    chance = random.Random(seed)
    found = []
    for _ in range(count):
        many, picks, ends = chance.randint(1, 4), chance.randint(1, 4), chance.randint(1, 4)
        found.append(tuple([
            tuple([tuple([chance.randint(0, 1) for _ in range(ends)]) for _ in range(picks)]) for _ in range(many)
        ]))
    return found


class StackedTest(WeaveTest):
    def test_example(self):
        self.assertEqual(stacked((ONE, NONE)), ((1, 0), (1, 0)))
        self.assertEqual(stacked((PLAIN,)), PLAIN)
        self.assertEqual(stacked((NONE, ONE, NONE)), ((0, 0, 0), (1, 1, 0), (1, 1, 0)))

    def test_some_stacks(self):
        for cloths in some_stacks(51, 150):
            self.assertEqual(stacked(cloths), slow_stack(cloths))

    def test_size(self):
        six = ((1,) * 6,) * 6
        self.assertEqual(stacked((six,) * 4), slow_stack((six,) * 4))
        for rows in (((1,) * 7,) * 6, ((1,) * 6,) * 7, ((1,) * 24,) * 24):
            self.refuses(TooMany, "size", stacked, (rows,) * 4)
            self.refuses(TooMany, "size", stitched, (rows,) * 4, ())
        self.assertEqual(len(stacked((((0,) * 12,) * 12,) * 2)), 24)
        self.refuses(TooMany, "size", stacked, (((0,) * 13,),) * 2)
        self.refuses(TooMany, "size", stacked, (((0,),) * 13,) * 2)

    def test_wrong_cloths(self):
        wrong = (
            None, 0, (), PLAIN, [PLAIN], (ONE, PLAIN), (((1,),), ((1, 0),)), (((1,),), ((1,), (0,))), (ONE,) * 5,
            (ONE, ((2,),)), (ONE, ((True,),)), (ONE, [(1,)]), (ONE, None), ((ONE,),),
        )
        for cloths in wrong:
            self.refuses(ArgumentError, "cloths", stacked, cloths)
            self.refuses(ArgumentError, "cloths", stitched, cloths, None)
        self.stands_any_values(stacked, TWO)


class StitchedTest(WeaveTest):
    def test_example(self):
        self.assertEqual(stitched((ONE, NONE), ((0, 1),)), ((1, 1), (1, 0)))
        self.assertEqual(stitched((ONE, NONE), ((0, 1), (1, 0))), ((1, 1), (0, 0)))
        self.assertEqual(stitched(TWO, ()), slow_stack(TWO))

    def test_all_single_stitches(self):
        for cloths in (TWO, (ONE, NONE, ONE), (PLAIN, PLAIN)):
            for pick, end in itertools.product(range(-1, 7), repeat=2):
                if (pick, end) in all_stitches(cloths):
                    rows = [list(row) for row in slow_stack(cloths)]
                    rows[pick][end] = 1 - rows[pick][end]
                    expected = tuple([tuple(row) for row in rows])
                    self.assertEqual(stitched(cloths, ((pick, end),)), expected)
                else:
                    self.refuses(ArgumentError, "stitches", stitched, cloths, ((pick, end),))

    def test_wrong_stitches(self):
        right = ((0, 1), (0, 3), (1, 0))
        self.assertEqual(len(stitched(TWO, right)), 4)
        wrong = (
            None, 0, "", list(right), ((0, 1), [0, 3]), right[::-1], (*right, right[2]), ((0, 1), (0, 1)),
            ((0, 3), (0, 1)), ((0,),), ((0, 1, 1),), (0, 1), ((0, True),), ((False, 1),), (("0", 1),), ((0, None),),
            ((0, 7),), ((4, 1),), ((0, -1),), ((0, 10 ** 30),),
        )
        for stitches in wrong:
            self.refuses(ArgumentError, "stitches", stitched, TWO, stitches)
            self.refuses(ArgumentError, "stitches", stitched, (((1,) * 24,) * 24,) * 4, None)
        self.refuses(ArgumentError, "stitches", stitched, (ONE,), ((0, 0),))
        large = (((1,) * 24,) * 24,) * 2
        self.refuses(ArgumentError, "stitches", stitched, large, ((0, 48),))
        self.refuses(TooMany, "size", stitched, large, ((0, 47),))
        self.stands_any_values(stitched, TWO, right)


class UnstackedTest(WeaveTest):
    def test_example(self):
        self.assertEqual(unstacked(((1, 1), (1, 0)), 2), ((ONE, NONE), ((0, 1),)))
        self.assertEqual(unstacked(PLAIN, 1), ((PLAIN,), ()))

    def test_undoes(self):
        chance = random.Random(52)
        for cloths in some_stacks(53, 150):
            stitches = tuple([place for place in all_stitches(cloths) if chance.randrange(3) == 0])
            cloth = stitched(cloths, stitches)
            self.assertEqual(unstacked(cloth, len(cloths)), (cloths, stitches))

    def test_any_cloth(self):
        for cloth in some_cloths(54, 300, 12) + all_cloths(2, 2) + all_cloths(2, 4):
            for count in range(1, 5):
                if len(cloth) % count == 0 and len(cloth[0]) % count == 0:
                    cloths, stitches = unstacked(cloth, count)
                    self.assertEqual(len(cloths), count)
                    self.assertEqual(stitched(cloths, stitches), cloth)
                else:
                    self.refuses(ArgumentError, "count", unstacked, cloth, count)

    def test_wrong_counts(self):
        twelve = ((1, 0) * 6,) * 12
        for count in (0, -1, 5, 6, 12, True, None, "2", (2,), 10 ** 30):
            self.refuses(ArgumentError, "count", unstacked, twelve, count)
        for cloth in (((1, 0, 1),) * 2, ((1, 0),) * 3):
            self.refuses(ArgumentError, "count", unstacked, cloth, 2)
        self.refuses(ClothError, "form", unstacked, None, 0)
        self.stands_any_values(unstacked, PLAIN, 2)


class LoosestTest(WeaveTest):
    def test_stacks(self):
        for count in range(1, 5):
            self.assertEqual(loosest(slow_stack((NONE,) * count)), count)
            self.assertEqual(loosest(slow_stack((PLAIN,) * count)), count)
        self.assertEqual(loosest(stitched((PLAIN, PLAIN), ((0, 1),))), 1)
        self.assertEqual(loosest(slow_stack((NONE,) * 5)), 1)
        self.assertEqual(loosest(slow_stack((NONE,) * 6)), 1)

    def test_beside_all_counts(self):
        cloths = all_cloths(2, 2) + all_cloths(2, 4) + [slow_stack(cloths) for cloths in some_stacks(55, 100)]
        for cloth in cloths:
            expected = 1
            for count in (2, 3, 4):
                if len(cloth) % count == 0 and len(cloth[0]) % count == 0:
                    parts = [tuple([row[k::count] for row in cloth[k::count]]) for k in range(count)]
                    expected = count if slow_stack(parts) == cloth else expected
            self.assertEqual(loosest(cloth), expected)

    def test_wrong_cloths(self):
        self.refuses(ClothError, "picks", loosest, ())
        self.stands_any_values(loosest, PLAIN)


class FoldedTest(WeaveTest):
    def test_example(self):
        self.assertEqual(folded(((1, 0),)), ((1, 0), (1, 1)))
        self.assertEqual(folded(((1, 1, 0, 1),)), ((1, 0, 1, 0), (1, 0, 1, 1)))

    def test_some_cloths(self):
        for cloth in some_cloths(56, 200, 12):
            if len(cloth[0]) % 2 == 1:
                self.refuses(ArgumentError, "cloth", folded, cloth)
                continue
            ends = len(cloth[0])
            above = tuple([row[:ends // 2] for row in cloth])
            below = tuple([tuple([1 - row[ends - 1 - end] for end in range(ends // 2)]) for row in cloth])
            self.assertEqual(folded(cloth), slow_stack((above, below)))

    def test_size(self):
        self.assertEqual(len(folded(((1, 0),) * 12)), 24)
        self.refuses(ArgumentError, "cloth", folded, ((1, 0),) * 13)
        self.refuses(ArgumentError, "cloth", folded, ((1, 0, 1),) * 12)
        self.refuses(ArgumentError, "cloth", folded, ((1,) * 23,))
        self.assertEqual(len(folded(((1,) * 24,))[0]), 24)
        self.refuses(ArgumentError, "cloth", folded, ((1,),))
        self.refuses(ClothError, "form", folded, None)
        self.stands_any_values(folded, PLAIN)
