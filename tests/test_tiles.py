"""Points 99 to 102: tiles."""

import itertools
import random

from hangstogether.errors import ArgumentError, ClothError, TooMany
from hangstogether.families import satin
from hangstogether.tiles import (
    behind,
    beside,
    found_at,
    lattice,
    least_repeat,
    piece,
    repeats,
    same_endless,
    shifted,
)
from hangstogether.turns import reduced
from tests.helpers import WeaveTest, all_cloths, some_cloths

PLAIN = ((1, 0), (0, 1))
CLOTH = ((1, 0, 0), (0, 1, 1))
THREE = ((1, 0, 0), (0, 1, 0), (0, 0, 1))
GREAT = 10 ** 30


def part_at(cloth, pick, end):
    return cloth[pick % len(cloth)][end % len(cloth[0])]


def seen(cloth, pick, end, picks, ends):
    return tuple([tuple([part_at(cloth, pick + p, end + e) for e in range(ends)]) for p in range(picks)])


def repeated(cloth, down, aside):
    return tuple([row * aside for row in cloth] * down)


def some_repeats(seed, count):
    """Return cloths that often have shifts onto themselves."""
    chance = random.Random(seed)
    found = []
    for _ in range(count):
        ends = chance.randint(1, 6)
        row = tuple([chance.randint(0, 1) for _ in range(ends)])
        step = chance.randrange(ends)
        rows = tuple([row[-step * pick % ends:] + row[:-step * pick % ends] for pick in range(chance.randint(1, 6))])
        found.append(repeated(rows, chance.randint(1, 3), chance.randint(1, 3)))
    return found


ALL = all_cloths(2, 2) + all_cloths(1, 4) + all_cloths(3, 2) + some_cloths(131, 80, 6) + some_repeats(132, 80)


class ShiftedTest(WeaveTest):
    def test_examples(self):
        self.assertEqual(shifted(CLOTH, 0, 1), ((0, 0, 1), (1, 1, 0)))
        self.assertEqual(shifted(CLOTH, 1, 0), CLOTH[::-1])
        self.assertEqual(shifted(CLOTH, -1, -1), ((1, 0, 1), (0, 1, 0)))
        self.assertEqual(shifted(CLOTH, GREAT, -GREAT), shifted(CLOTH, 0, 2))

    def test_some_cloths(self):
        chance = random.Random(133)
        for cloth in ALL:
            for _ in range(3):
                picks, ends = [chance.choice((chance.randint(-9, 9), chance.randint(-GREAT, GREAT))) for _ in range(2)]
                self.assertEqual(shifted(cloth, picks, ends), seen(cloth, picks, ends, len(cloth), len(cloth[0])))

    def test_wrong_shifts(self):
        for value in (None, True, "1", (1,), 1.0):
            self.refuses(ArgumentError, "shift", shifted, CLOTH, value, 0)
            self.refuses(ArgumentError, "shift", shifted, CLOTH, 0, value)
        self.refuses(ClothError, "form", shifted, None, None, None)
        self.stands_any_values(shifted, CLOTH, 0, 1)


class RepeatsTest(WeaveTest):
    def test_examples(self):
        self.assertEqual(repeats(PLAIN), ((0, 0), (1, 1)))
        self.assertEqual(repeats(CLOTH), ((0, 0),))
        self.assertEqual(repeats(((0, 0), (0, 0))), ((0, 0), (0, 1), (1, 0), (1, 1)))
        self.assertEqual(repeats(satin(5, 2)), ((0, 0), (1, 2), (2, 4), (3, 1), (4, 3)))
        self.assertEqual(lattice(THREE), (3, 1, 1))
        self.assertEqual(lattice(satin(8, 3)), (8, 1, 3))
        self.assertEqual(lattice(CLOTH), (3, 2, 0))
        self.assertEqual(lattice(((1,) * 24,) * 24), (1, 1, 0))
        self.assertEqual(least_repeat(((1, 0, 1, 0), (0, 1, 0, 1))), PLAIN)

    def test_beside_all_shifts(self):
        for cloth in ALL:
            down, aside = len(cloth), len(cloth[0])
            fits = lambda picks, ends: seen(cloth, picks, ends, down, aside) == cloth
            expected = [shift for shift in itertools.product(range(down), range(aside)) if fits(*shift)]
            self.assertEqual(repeats(cloth), tuple(expected))
            ends = min([ends for ends in range(1, aside + 1) if fits(0, ends)])
            straight = min([picks for picks in range(1, down + 1) if fits(picks, 0)])
            self.assertEqual(least_repeat(cloth), tuple([row[:ends] for row in cloth[:straight]]))
            self.assertEqual(least_repeat(cloth), reduced(cloth))
            picks = min([picks for picks in range(1, down + 1) if any([fits(picks, e) for e in range(aside)])])
            beside_them = min([e for e in range(aside) if fits(picks, e)])
            self.assertEqual(lattice(cloth), (ends, picks, beside_them))
            # All shifts are sums of whole multiples of the two.
            sums = {(k * picks % down, (k * beside_them + m * ends) % aside) for k in range(down) for m in range(aside)}
            self.assertEqual(sums, set(expected))

    def test_wrong_cloths(self):
        for function in (repeats, least_repeat, lattice):
            self.refuses(ClothError, "ends", function, ((),))
            self.stands_any_values(function, CLOTH)


class SameEndlessTest(WeaveTest):
    def test_examples(self):
        self.assertTrue(same_endless(PLAIN, repeated(PLAIN, 3, 4)))
        self.assertFalse(same_endless(PLAIN, PLAIN[::-1]))
        self.assertTrue(same_endless(repeated(CLOTH, 2, 3), repeated(CLOTH, 3, 2)))
        self.assertFalse(same_endless(((1,),), ((0,),)))

    def test_beside_large_pieces(self):
        cloths = all_cloths(2, 2) + all_cloths(1, 2) + all_cloths(1, 4) + all_cloths(1, 3) + all_cloths(3, 1)
        for first, second in itertools.product(cloths, repeat=2):
            alike = seen(first, 0, 0, 12, 12) == seen(second, 0, 0, 12, 12)
            self.assertEqual(same_endless(first, second), alike)

    def test_wrong_cloths(self):
        for function in (same_endless, found_at, beside, behind):
            self.refuses(ClothError, "form", function, None, ())
            self.refuses(ClothError, "picks", function, PLAIN, ())
            self.refuses(ClothError, "crossing", function, ((True,),), ())
            self.stands_any_values(function, PLAIN, PLAIN)


class PieceTest(WeaveTest):
    def test_examples(self):
        self.assertEqual(piece(CLOTH, 0, 0, 1, 1), ((1,),))
        self.assertEqual(piece(CLOTH, 1, 2, 2, 3), ((1, 0, 1), (0, 1, 0)))
        self.assertEqual(piece(CLOTH, -1, -1, 3, 4), ((1, 0, 1, 1), (0, 1, 0, 0), (1, 0, 1, 1)))
        self.assertEqual(piece(((1, 0),), GREAT, GREAT + 1, 24, 24), ((0, 1) * 12,) * 24)

    def test_some_pieces(self):
        chance = random.Random(134)
        for cloth in ALL:
            sizes = chance.randint(1, 24), chance.randint(1, 24)
            place = [chance.choice((chance.randint(-30, 30), chance.randint(-GREAT, GREAT))) for _ in range(2)]
            self.assertEqual(piece(cloth, *place, *sizes), seen(cloth, *place, *sizes))

    def test_wrong_arguments(self):
        for value in (None, True, "1", (1,)):
            self.refuses(ArgumentError, "place", piece, CLOTH, value, 0, 0, 0)
            self.refuses(ArgumentError, "place", piece, CLOTH, 0, value, 0, 0)
        for value in (0, -1, 25, GREAT, None, True, "1", (1,)):
            self.refuses(ArgumentError, "size", piece, CLOTH, 0, 0, value, 1)
            self.refuses(ArgumentError, "size", piece, CLOTH, 0, 0, 1, value)
        self.refuses(ClothError, "form", piece, None, None, None, None, None)
        self.stands_any_values(piece, CLOTH, 0, 0, 2, 2)


class FoundAtTest(WeaveTest):
    def test_examples(self):
        self.assertEqual(found_at(PLAIN, PLAIN), ((0, 0), (1, 1)))
        self.assertEqual(found_at(repeated(PLAIN, 1, 2), PLAIN), ((0, 0), (0, 2), (1, 1), (1, 3)))
        self.assertEqual(found_at(PLAIN, repeated(PLAIN, 12, 12)), ((0, 0), (1, 1)))
        self.assertEqual(found_at(PLAIN, ((1, 1),)), ())
        self.assertEqual(found_at(CLOTH, ((1, 1), (0, 0))), ((1, 1),))
        # Round the edge.
        self.assertEqual(found_at(CLOTH, ((1, 0), (0, 1))), ((0, 0), (1, 2)))
        self.assertEqual(found_at(CLOTH, ((1, 0), (0, 1), (1, 0))), ((0, 0), (1, 2)))
        self.assertEqual(found_at(CLOTH, ((1, 1, 0, 1),)), ((1, 1),))

    def test_beside_all_places(self):
        chance = random.Random(135)
        for cloth in ALL:
            picks, ends = chance.randint(1, 3), chance.randint(1, 3)
            patterns = [seen(cloth, chance.randint(0, 6), chance.randint(0, 6), picks, ends)]
            patterns.append(tuple([tuple([chance.randint(0, 1) for _ in range(ends)]) for _ in range(picks)]))
            for pattern in patterns:
                places = itertools.product(range(len(cloth)), range(len(cloth[0])))
                expected = [place for place in places if seen(cloth, *place, picks, ends) == pattern]
                self.assertEqual(found_at(cloth, pattern), tuple(expected))


class BesideTest(WeaveTest):
    def test_examples(self):
        self.assertEqual(beside(PLAIN, CLOTH), ((1, 0, 1, 0, 0), (0, 1, 0, 1, 1)))
        self.assertEqual(beside(CLOTH, PLAIN), ((1, 0, 0, 1, 0), (0, 1, 1, 0, 1)))
        self.assertEqual(behind(PLAIN, ((1, 1),)), ((1, 0), (0, 1), (1, 1)))
        self.assertEqual(behind(((1, 1),), PLAIN), ((1, 1), (1, 0), (0, 1)))

    def test_limits(self):
        self.assertEqual(beside(((1,) * 11,), ((0,) * 13,)), ((1,) * 11 + (0,) * 13,))
        self.refuses(TooMany, "ends", beside, ((1,) * 11,), ((0,) * 14,))
        self.refuses(TooMany, "ends", beside, ((1,) * 24,), ((0,),))
        self.assertEqual(behind(((1,),) * 11, ((0,),) * 13), ((1,),) * 11 + ((0,),) * 13)
        self.refuses(TooMany, "picks", behind, ((1,),) * 11, ((0,),) * 14)
        self.refuses(TooMany, "picks", behind, ((1,),) * 24, ((0,),))

    def test_unlike_sizes(self):
        self.refuses(ArgumentError, "picks", beside, PLAIN, THREE)
        self.refuses(ArgumentError, "picks", beside, ((1,) * 24,), ((0,) * 24,) * 2)
        self.refuses(ArgumentError, "ends", behind, PLAIN, CLOTH)
        self.refuses(ArgumentError, "ends", behind, ((1,),) * 24, ((0, 1),) * 24)
