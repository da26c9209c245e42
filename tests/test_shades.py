"""Points 135 to 137: shades."""

import itertools
import random
from fractions import Fraction
from math import gcd

from hangstogether.errors import ArgumentError, ClothError, TooMany
from hangstogether.shades import carried, measured, shaded, shades_of, units
from tests.helpers import WeaveTest, some_cloths

GREYS = ((0, 64, 255), (127, 128, 1))
NO_ENDS = (0, 25, -1, True, None, "1", (1,), 10 ** 30)


def steps_for(ends):
    return [step for step in range(ends) if gcd(step, ends) == 1]


def slow_unit(ends, step, shade):
    rows = []
    for pick in range(ends):
        above = {(pick * step + further) % ends for further in range(shade)}
        rows.append(tuple([int(end in above) for end in range(ends)]))
    return tuple(rows)


def slow_shade(grey, ends):
    """Return the nearest shade, with fractions of Python's own."""
    return min(range(ends + 1), key=lambda shade: (abs(Fraction(shade * 255, ends) - grey), shade))


def slow_carried(row, ends):
    told, lacks = [], 0
    for grey in row:
        wanted = grey + lacks
        if wanted < 0:
            wanted = 0
        if wanted > 255:
            wanted = 255
        shade = (wanted * ends + 127) // 255
        told.append(shade)
        lacks = (grey + lacks) - (shade * 255) // ends
    return tuple(told)


def some_greys(seed, count):
    chance = random.Random(seed)
    found = []
    for _ in range(count):
        size = chance.randint(1, 24)
        grey = lambda: chance.choice((0, 1, 127, 128, 254, 255, chance.randint(0, 255)))
        found.append(tuple([tuple([grey() for _ in range(size)]) for _ in range(chance.randint(1, 24))]))
    return found


class UnitsTest(WeaveTest):
    def test_examples(self):
        self.assertEqual(units(2, 1), (((0, 0), (0, 0)), ((1, 0), (0, 1)), ((1, 1), (1, 1))))
        self.assertEqual(units(1, 0), (((0,),), ((1,),)))
        self.assertEqual(units(3, 2)[2], ((1, 1, 0), (1, 0, 1), (0, 1, 1)))
        self.assertEqual(units(5, 2)[1], ((1, 0, 0, 0, 0), (0, 0, 1, 0, 0), (0, 0, 0, 0, 1), (0, 1, 0, 0, 0), (0, 0, 0, 1, 0)))

    def test_every_step(self):
        for ends in range(1, 25):
            for step in range(-1, ends + 2):
                if step in steps_for(ends):
                    self.assertEqual(units(ends, step), tuple([slow_unit(ends, step, shade) for shade in range(ends + 1)]))
                else:
                    self.refuses(ArgumentError, "step", units, ends, step)

    def test_wrong_arguments(self):
        for ends in NO_ENDS:
            self.refuses(ArgumentError, "ends", units, ends, 1)
            self.refuses(ArgumentError, "ends", units, ends, None)
        for step in (True, None, "1", (1,), -1, 5, 10 ** 30, 0):
            self.refuses(ArgumentError, "step", units, 5, step)
        self.refuses(ArgumentError, "step", units, 1, False)
        self.refuses(ArgumentError, "step", units, 1, 1)
        self.stands_any_values(units, 5, 2)


class ShadesOfTest(WeaveTest):
    def test_examples(self):
        self.assertEqual(shades_of(((0, 64, 255),), 4), ((0, 1, 4),))
        self.assertEqual(shades_of(GREYS, 1), ((0, 0, 1), (0, 1, 0)))

    def test_every_grey(self):
        for ends in range(1, 25):
            for grey in range(256):
                self.assertEqual(shades_of(((grey,),), ends), ((slow_shade(grey, ends),),))

    def test_next_to_the_middle(self):
        # As the greatest grey is odd, no grey is equally near to two shades; these are as near to it as can be.
        self.assertEqual(shades_of(((127, 128),), 1), ((0, 1),))
        self.assertEqual(shades_of(((63, 64, 191, 192),), 2), ((0, 1, 1, 2),))
        self.assertEqual(shades_of(((25, 26, 76, 77, 229, 230),), 5), ((0, 1, 1, 2, 4, 5),))
        for ends in range(1, 25):
            for grey in range(256):
                gaps = sorted([abs(shade * 255 - grey * ends) for shade in range(ends + 1)])
                self.assertNotEqual(gaps[0], gaps[1])

    def test_some_pictures(self):
        for rows in some_greys(241, 40):
            for ends in (1, 2, 7, 24):
                wanted = tuple([tuple([slow_shade(grey, ends) for grey in row]) for row in rows])
                self.assertEqual(shades_of(rows, ends), wanted)


class CarriedTest(WeaveTest):
    def test_examples(self):
        self.assertEqual(carried(((0, 0, 255, 255),), 1), ((0, 0, 1, 1),))
        # 100 lacks, then 200 lacks, of which 255 are too much.
        self.assertEqual(carried(((100, 100, 100, 100),), 1), ((0, 1, 0, 1),))
        # What lacks begins anew in each row.
        self.assertEqual(carried(((100,), (100,)), 1), ((0,), (0,)))
        self.assertEqual(carried(((127, 0), (128, 0)), 1), ((0, 0), (1, 0)))

    def test_below_and_above(self):
        # What lacks is below 0 behind 128, so that the next grey is wanted as 0, and the one behind it is still less.
        self.assertEqual(carried(((128, 0, 127, 127, 127),), 1), ((1, 0, 0, 0, 1),))
        self.assertEqual(carried(((127, 255, 255, 255),), 1), ((0, 1, 1, 1),))
        self.assertEqual(carried(((255,) * 5,), 7), ((7,) * 5,))

    def test_some_pictures(self):
        for rows in some_greys(242, 60):
            for ends in (1, 2, 3, 7, 10, 24):
                told = carried(rows, ends)
                self.assertEqual(told, tuple([slow_carried(row, ends) for row in rows]))
                self.assertTrue(all([0 <= shade <= ends for row in told for shade in row]))

    def test_every_pair(self):
        for grey, other in itertools.product(range(0, 256, 5), repeat=2):
            for ends in (1, 4):
                self.assertEqual(carried(((grey, other),), ends), (slow_carried((grey, other), ends),))


class PicturesTest(WeaveTest):
    def test_wrong_pictures(self):
        wrong = [
            None, 0, "0", (), ((),), ((), ()), [(0,)], ([0],), (0,), ((0,), ()), ((0,), (0, 0)), ((0,), None), ((0,) * 25,),
            ((0,),) * 25,
        ]
        wrong += [((0, value),) for value in (-1, 256, True, None, "0", (0,), 10 ** 30)]
        for function in (shades_of, carried):
            for rows in wrong:
                self.refuses(ArgumentError, "picture", function, rows, 2)
                self.refuses(ArgumentError, "picture", function, rows, 0)
            for ends in NO_ENDS:
                self.refuses(ArgumentError, "ends", function, GREYS, ends)
            self.stands_any_values(function, GREYS, 4)
            self.assertEqual(function(((0,) * 24,) * 24, 24), ((0,) * 24,) * 24)

    def test_wrong_shades(self):
        wrong = [None, 0, (), ((),), [(0,)], ([0],), ((0,), (0, 0)), ((0,) * 25,), ((0,),) * 25]
        wrong += [((0, value),) for value in (-1, 4, 255, True, None, "0", (0,))]
        for rows in wrong:
            self.refuses(ArgumentError, "picture", shaded, rows, 3, 1)
        for ends in NO_ENDS:
            self.refuses(ArgumentError, "ends", shaded, None, ends, None)
            self.refuses(ArgumentError, "ends", shaded, ((0,) * 24,), ends, 1)
        for step in (0, 3, -1, True, None, "1"):
            self.refuses(ArgumentError, "step", shaded, None, 3, step)
        self.stands_any_values(shaded, ((0, 3),), 3, 1)


class ShadedTest(WeaveTest):
    def test_examples(self):
        self.assertEqual(shaded(((1, 2), (0, 1)), 2, 1), ((1, 0, 1, 1), (0, 1, 1, 1), (0, 0, 1, 0), (0, 0, 0, 1)))
        self.assertEqual(shaded(((1, 0),), 1, 0), ((1, 0),))

    def test_measured(self):
        chance = random.Random(243)
        for _ in range(80):
            ends = chance.randint(1, 8)
            step = chance.choice(steps_for(ends))
            most = 24 // ends
            size = chance.randint(1, most)
            rows = tuple([tuple([chance.randint(0, ends) for _ in range(size)]) for _ in range(chance.randint(1, most))])
            cloth = shaded(rows, ends, step)
            self.assertEqual(measured(cloth, ends, ends), tuple([tuple([shade * ends for shade in row]) for row in rows]))
            for row, column in itertools.product(range(len(rows)), range(size)):
                block = tuple([line[column * ends:(column + 1) * ends] for line in cloth[row * ends:(row + 1) * ends]])
                self.assertEqual(block, slow_unit(ends, step, rows[row][column]))

    def test_greatest(self):
        self.assertEqual(shaded(((24,),), 24, 5), ((1,) * 24,) * 24)
        self.assertEqual(shaded(((9,),), 24, 5), slow_unit(24, 5, 9))
        self.assertEqual(len(shaded(((3,) * 8,) * 8, 3, 2)), 24)
        self.refuses(TooMany, "size", shaded, ((3,) * 9,), 3, 2)
        self.refuses(TooMany, "size", shaded, ((3,),) * 9, 3, 2)
        self.refuses(TooMany, "size", shaded, ((24, 0),), 24, 5)
        self.refuses(TooMany, "size", shaded, ((5,) * 5,), 5, 2)
        self.refuses(TooMany, "size", shaded, ((5,),) * 5, 5, 2)
        self.refuses(TooMany, "size", shaded, ((0,),) * 2, 13, 1)
        self.refuses(ArgumentError, "picture", shaded, ((3,) * 8 + (4,),), 3, 2)


class MeasuredTest(WeaveTest):
    CLOTH = ((1, 0, 1, 1), (0, 1, 1, 1))

    def test_examples(self):
        self.assertEqual(measured(self.CLOTH, 1, 1), self.CLOTH)
        self.assertEqual(measured(self.CLOTH, 2, 4), ((6,),))
        self.assertEqual(measured(self.CLOTH, 2, 2), ((2, 4),))
        self.assertEqual(measured(self.CLOTH, 1, 2), ((1, 2), (1, 2)))

    def test_some_cloths(self):
        for cloth in some_cloths(244, 60, 12):
            for picks, ends in itertools.product(range(1, 13), repeat=2):
                if len(cloth) % picks:
                    self.refuses(ArgumentError, "picks", measured, cloth, picks, 0)
                elif len(cloth[0]) % ends:
                    self.refuses(ArgumentError, "ends", measured, cloth, picks, ends)
                else:
                    told = measured(cloth, picks, ends)
                    self.assertEqual((len(told), len(told[0])), (len(cloth) // picks, len(cloth[0]) // ends))
                    for (row, counts) in enumerate(told):
                        for column, count in enumerate(counts):
                            lines = cloth[row * picks:(row + 1) * picks]
                            self.assertEqual(count, sum([sum(line[column * ends:(column + 1) * ends]) for line in lines]))

    def test_wrong_arguments(self):
        self.refuses(ClothError, "form", measured, None, None, None)
        self.refuses(ClothError, "crossing", measured, ((2,),), 0, 0)
        for number in (0, 3, -1, -2, True, None, "1", (1,), 10 ** 30):
            self.refuses(ArgumentError, "picks", measured, self.CLOTH, number, None)
            self.refuses(ArgumentError, "ends", measured, self.CLOTH, 2, number)
        self.stands_any_values(measured, self.CLOTH, 2, 2)
