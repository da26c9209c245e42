"""Points 55 to 58: blocks."""

import itertools
import random

from hangstogether.blocks import accept_profile, blocked, parted, profile_of, shortest
from hangstogether.errors import ArgumentError, ClothError, TooMany
from tests.helpers import WeaveTest, all_cloths, some_cloths, variants

UNITS = (((1, 0), (0, 0)), ((1, 1), (0, 1)), ((0, 0), (1, 1)))
PROFILE = ((0, 1, 1), (2, 0, 1))
CLOTH = (
    (1, 0, 1, 1, 1, 1),
    (0, 0, 0, 1, 0, 1),
    (0, 0, 1, 0, 1, 1),
    (1, 1, 0, 0, 0, 1),
)


def pieces_of(cloth, picks, ends):
    """Return the blocks of a cloth by their places."""
    return {
        (row, column): tuple([
            tuple([cloth[row * picks + pick][column * ends + end] for end in range(ends)]) for pick in range(picks)
        ])
        for row in range(len(cloth) // picks) for column in range(len(cloth[0]) // ends)
    }


def fits(cloth, profile, units):
    """Tell whether a profile gives a cloth, crossing by crossing."""
    picks, ends = len(units[0]), len(units[0][0])
    if (len(profile) * picks, len(profile[0]) * ends) != (len(cloth), len(cloth[0])):
        return False
    return all([
        part == units[profile[pick // picks][end // ends]][pick % picks][end % ends]
        for pick, row in enumerate(cloth) for end, part in enumerate(row)
    ])


def is_profile(value, count):
    if type(value) is not tuple or not 1 <= len(value) <= 24 or not all([type(row) is tuple for row in value]):
        return False
    sizes = {len(row) for row in value}
    if len(sizes) != 1 or not 1 <= max(sizes) <= 24:
        return False
    return all([type(part) is int and 0 <= part < count for row in value for part in row])


def some_profile(chance, rows, columns, count):
    return tuple([tuple([chance.randrange(count) for _ in range(columns)]) for _ in range(rows)])


class BlockedTest(WeaveTest):
    def test_example(self):
        self.assertEqual(blocked(PROFILE, UNITS), CLOTH)
        self.assertEqual(blocked(((0,),), UNITS), UNITS[0])

    def test_some_profiles(self):
        chance = random.Random(41)
        for _ in range(100):
            picks, ends = chance.randint(1, 4), chance.randint(1, 4)
            units = tuple([some_profile(chance, picks, ends, 2) for _ in range(chance.randint(1, 8))])
            profile = some_profile(chance, chance.randint(1, 6), chance.randint(1, 6), len(units))
            self.assertTrue(fits(blocked(profile, units), profile, units))

    def test_size(self):
        twelve = ((0,) * 12,) * 12
        self.assertEqual(blocked(twelve, (((1, 1), (1, 1)),)), ((1,) * 24,) * 24)
        self.refuses(TooMany, "size", blocked, ((0,) * 12,) * 13, (((1, 1), (1, 1)),))
        self.refuses(TooMany, "size", blocked, ((0,) * 13,) * 12, (((1, 1), (1, 1)),))
        self.assertEqual(blocked(((0,) * 8,) * 24, (((0, 1, 1),),)), ((0, 1, 1) * 8,) * 24)
        self.refuses(TooMany, "size", blocked, ((0,) * 9,), (((0, 1, 1),),))
        self.refuses(TooMany, "size", blocked, ((0,),) * 9, (((0,), (1,), (1,)),))
        self.assertEqual(blocked(((0,) * 24,) * 24, (((0,),),)), ((0,) * 24,) * 24)

    def test_wrong_profiles(self):
        wrong = (
            None, 0, "0", (), (0,), ((),), [(0,)], ([0],), ((0,), (0, 0)), ((0,), 0), ((0,), ()), ((8,),), ((-1,),),
            ((True,),), (("0",),), ((None,),), ((0,),) * 25, ((0,) * 25,),
        )
        eight = tuple([((bit,),) for bit in (0, 1) * 4])
        self.assertEqual(blocked(((7,),), eight), ((1,),))
        for profile in wrong:
            self.refuses(ArgumentError, "profile", blocked, profile, eight)
            self.refuses(ArgumentError, "profile", blocked, profile, None)

    def test_wrong_units(self):
        wrong = (
            None, 0, (), ((1,),), (((1,),), ((1, 0),)), (((1,),), ((1,), (0,))), (((1,),), ((2,),)), [((1,),)],
            (((True,),),), (((1,),),) * 9, (((),),), ((),),
        )
        for units in wrong:
            self.refuses(ArgumentError, "units", blocked, ((0,),), units)
            self.refuses(ArgumentError, "units", profile_of, ((1,),), units)
            self.refuses(ArgumentError, "units", accept_profile, ((1,),), units, None)
        self.assertEqual(blocked(((0,),), (((1,),),) * 8), ((1,),))
        self.refuses(ArgumentError, "units", blocked, ((0, 1, 3),), UNITS)
        self.refuses(ArgumentError, "units", blocked, ((3,),) * 24, UNITS)
        self.stands_any_values(blocked, PROFILE, UNITS)


class PartedTest(WeaveTest):
    def test_example(self):
        self.assertEqual(parted(CLOTH, 2, 2), (PROFILE, UNITS))
        self.assertEqual(parted(CLOTH, 4, 6), (((0,),), (CLOTH,)))
        self.assertEqual(parted(CLOTH, 1, 1)[1], (((1,),), ((0,),)))

    def test_undoes(self):
        for cloth in some_cloths(42, 150, 6):
            for picks, ends in itertools.product(range(1, 7), repeat=2):
                if len(cloth) % picks or len(cloth[0]) % ends:
                    continue
                blocks = list(pieces_of(cloth, picks, ends).values())
                units = tuple(dict.fromkeys(blocks))
                if len(units) > 8:
                    self.refuses(TooMany, "units", parted, cloth, picks, ends)
                    continue
                profile, found = parted(cloth, picks, ends)
                self.assertEqual(found, units)
                self.assertTrue(fits(cloth, profile, units))

    def test_units(self):
        rows = [(a, b, c, d) for a in (0, 1) for b in (0, 1) for c in (0, 1) for d in (0, 1)]
        self.assertEqual(len(parted(tuple(rows[:8]), 1, 4)[1]), 8)
        self.refuses(TooMany, "units", parted, tuple(rows[:9]), 1, 4)
        self.assertEqual(len(parted(tuple(rows[:8] * 3), 1, 4)[1]), 8)

    def test_wrong_sizes(self):
        for size in (0, -1, 3, 5, 8, True, None, "2", 2.0, (2,), 10 ** 30):
            self.refuses(ArgumentError, "picks", parted, CLOTH, size, 2)
            self.refuses(ArgumentError, "picks", parted, CLOTH, size, 0)
        for size in (0, -1, 4, 5, 12, True, None, "2", (2,)):
            self.refuses(ArgumentError, "ends", parted, CLOTH, 2, size)
        self.refuses(ClothError, "form", parted, None, 0, 0)
        self.stands_any_values(parted, CLOTH, 2, 2)


class ProfileTest(WeaveTest):
    def test_example(self):
        self.assertEqual(profile_of(CLOTH, UNITS), ("profile", PROFILE))
        self.assertEqual(profile_of(CLOTH, UNITS[:2]), ("block", 1, 0))
        self.assertEqual(profile_of(CLOTH, UNITS[1:]), ("block", 0, 0))

    def test_first_fitting_unit(self):
        units = (UNITS[1], UNITS[0], UNITS[1], UNITS[2], UNITS[0])
        self.assertEqual(profile_of(CLOTH, units), ("profile", ((1, 0, 0), (3, 1, 0))))

    def test_some_cloths(self):
        chance = random.Random(43)
        for cloth in some_cloths(44, 150, 6):
            picks = chance.choice([size for size in range(1, 7) if len(cloth) % size == 0])
            ends = chance.choice([size for size in range(1, 7) if len(cloth[0]) % size == 0])
            blocks = pieces_of(cloth, picks, ends)
            units = tuple([chance.choice(list(blocks.values())) for _ in range(chance.randint(1, 8))])
            missing = [place for place in sorted(blocks) if blocks[place] not in units]
            told = profile_of(cloth, units)
            self.assertIsNone(accept_profile(cloth, units, told))
            if missing:
                self.assertEqual(told, ("block", *missing[0]))
                for place in missing:
                    self.assertIsNone(accept_profile(cloth, units, ("block", *place)))
            else:
                firsts = {place: units.index(block) for place, block in blocks.items()}
                rows = tuple([
                    tuple([firsts[row, column] for column in range(len(cloth[0]) // ends)])
                    for row in range(len(cloth) // picks)
                ])
                self.assertEqual(told, ("profile", rows))

    def test_wrong_arguments(self):
        for units in ((((1,), (0,), (1,)),), (((1, 0, 1, 0),),), (((1,) * 6,) * 8,), (((1,) * 12,),)):
            self.refuses(ArgumentError, "units", profile_of, CLOTH, units)
            self.refuses(ArgumentError, "units", accept_profile, CLOTH, units, None)
        self.refuses(ClothError, "form", profile_of, None, None)
        self.refuses(ClothError, "form", accept_profile, None, None, None)
        self.stands_any_values(profile_of, CLOTH, UNITS)


class AcceptTest(WeaveTest):
    def reason(self, cloth, units, told):
        if not isinstance(told, tuple) or not told or (len(told), told[0]) not in ((2, "profile"), (3, "block")):
            return "form"
        if told[0] == "profile":
            right = is_profile(told[1], len(units)) and fits(cloth, told[1], units)
            return None if right else "profile"
        blocks = pieces_of(cloth, len(units[0]), len(units[0][0]))
        right = [type(part) for part in told[1:]] == [int, int] and told[1:] in blocks
        return None if right and blocks[told[1:]] not in units else "block"

    def test_changed_answers(self):
        twice = (UNITS[0], UNITS[1], UNITS[1], UNITS[2])
        for units in (UNITS, UNITS[1:], UNITS[:1], twice):
            for told in variants(profile_of(CLOTH, units)):
                self.judges(self.reason(CLOTH, units, told), accept_profile, CLOTH, units, told)

    def test_any_profile(self):
        units = (UNITS[0], UNITS[1], UNITS[1], UNITS[2])
        right = 0
        for numbers in itertools.product(range(4), repeat=6):
            told = ("profile", (numbers[:3], numbers[3:]))
            reason = self.reason(CLOTH, units, told)
            right += reason is None
            self.judges(reason, accept_profile, CLOTH, units, told)
        self.assertEqual(right, 8)

    def test_any_block(self):
        for row, column in itertools.product(range(-2, 4), repeat=2):
            for units in (UNITS[:1], UNITS[1:], UNITS):
                told = ("block", row, column)
                self.judges(self.reason(CLOTH, units, told), accept_profile, CLOTH, units, told)
        self.judges("block", accept_profile, CLOTH, UNITS[:1], ("block", False, 1))
        self.assertIsNone(accept_profile(CLOTH, UNITS[:1], ("block", 0, 1)))

    def test_other_sizes(self):
        cloth = ((1, 1), (1, 1))
        units = (((1,),),)
        self.assertIsNone(accept_profile(cloth, units, ("profile", ((0, 0), (0, 0)))))
        for profile in (((0, 0),), ((0,), (0,)), ((0, 0),) * 3, ((0, 0, 0),) * 2, ((0, 0), (0,))):
            self.judges("profile", accept_profile, cloth, units, ("profile", profile))

    def test_any_values(self):
        self.stands_any_values(accept_profile, CLOTH, UNITS, ("profile", PROFILE))


class ShortestTest(WeaveTest):
    def slow(self, cloth):
        found = []
        for picks, ends in itertools.product(range(1, 25), repeat=2):
            if len(cloth) % picks == 0 and len(cloth[0]) % ends == 0:
                blocks = list(pieces_of(cloth, picks, ends).values())
                found.append((len(set(blocks)) * picks * ends + len(blocks), (picks, ends)))
        return min(found)

    def test_examples(self):
        self.assertEqual(shortest(((1,),)), (2, (1, 1)))
        self.assertEqual(shortest(((1, 0), (0, 1))), (5, (2, 2)))
        self.assertEqual(shortest(((1,) * 24,) * 24), (48, (1, 24)))

    def test_beside_all_sizes(self):
        cloths = all_cloths(2, 2) + all_cloths(1, 4) + all_cloths(4, 2) + some_cloths(45, 150, 8)
        cloths += [tuple([row * 4 for row in cloth] * 3) for cloth in some_cloths(46, 30, 6)]
        for cloth in cloths:
            self.assertEqual(shortest(cloth), self.slow(cloth))

    def test_more_units_than_may_be(self):
        chance = random.Random(47)
        cloth = tuple([tuple([chance.randint(0, 1) for _ in range(24)]) for _ in range(24)])
        self.assertEqual(shortest(cloth), self.slow(cloth))
        rows = tuple([tuple([chance.randint(0, 1) for _ in range(6)]) for _ in range(12)])
        doubled = tuple([row * 4 for row in rows])
        self.assertEqual(shortest(doubled), self.slow(doubled))
        self.assertGreater(len(set(rows)), 8)

    def test_wrong_cloths(self):
        self.refuses(ClothError, "form", shortest, [(1,)])
        self.stands_any_values(shortest, CLOTH)
