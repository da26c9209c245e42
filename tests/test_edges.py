"""Points 129 to 131: edges."""

import itertools
import random

from hangstogether.edges import accept_starts, best_starts, joins, loose_turns, with_floating
from hangstogether.errors import ArgumentError, ClothError, TooMany
from tests.helpers import ODD_VALUES, WeaveTest, all_cloths, some_cloths, variants

CLOTH = ((1, 0, 1), (0, 1, 0), (0, 1, 1))
WEFTS = (0, 0, 0)


def walk(cloth, wefts, starts):
    """Return for each pick the side where it goes in, and all loose turns, by weaving pick by pick."""
    side = dict(zip(sorted(set(wefts)), starts))
    last, sides, loose = {}, [], []
    for pick, weft in enumerate(wefts):
        sides.append(side[weft])
        if weft in last:
            end = (0, -1)[side[weft]]
            if cloth[last[weft]][end] == cloth[pick][end]:
                loose.append((weft, last[weft], pick, side[weft]))
        last[weft] = pick
        side[weft] = 1 - side[weft]
    return sides, tuple(sorted(loose))


def all_starts(wefts):
    return list(itertools.product((0, 1), repeat=len(set(wefts))))


def some_pieces(seed, count, most, wefts=6):
    chance = random.Random(seed)
    return [
        (cloth, tuple([chance.randrange(chance.randint(1, wefts)) for _ in cloth])) for cloth in some_cloths(seed, count, most)
    ]


class LooseTest(WeaveTest):
    def test_examples(self):
        self.assertEqual(loose_turns(CLOTH, WEFTS, (0,)), ((0, 1, 2, 0),))
        self.assertEqual(loose_turns(CLOTH, WEFTS, (1,)), ())
        self.assertEqual(best_starts(CLOTH, WEFTS), (0, (1,)))

    def test_several_wefts(self):
        cloth = ((1, 0), (1, 0), (1, 1), (0, 0), (1, 0))
        self.assertEqual(loose_turns(cloth, (0, 5, 0, 5, 0), (0, 0)), ((0, 2, 4, 0), (5, 1, 3, 1)))
        self.assertEqual(loose_turns(cloth, (0, 5, 0, 5, 0), (1, 1)), ((0, 0, 2, 0),))
        self.assertEqual(loose_turns(cloth, (5, 0, 5, 0, 5), (0, 0)), ((0, 1, 3, 1), (5, 2, 4, 0)))

    def test_a_weft_that_makes_one_pick(self):
        for starts in all_starts((0, 1)):
            self.assertEqual(loose_turns(((0, 0),) * 2, (3, 1), starts), ())
        self.assertEqual(loose_turns(((0, 0),) * 3, (1, 3, 1), (1, 0)), ((1, 0, 2, 0),))
        self.assertEqual(loose_turns(((1,),), (0,), (1,)), ())

    def test_one_end(self):
        # The same end is the outermost one of both sides.
        self.assertEqual(loose_turns(((1,), (1,), (0,), (0,)), (2,) * 4, (0,)), ((2, 0, 1, 1), (2, 2, 3, 1)))

    def test_beside_weaving(self):
        for cloth, wefts in some_pieces(221, 200, 9):
            found = []
            for starts in all_starts(wefts):
                loose = walk(cloth, wefts, starts)[1]
                self.assertEqual(loose_turns(cloth, wefts, starts), loose)
                found.append((len(loose), starts))
            self.assertEqual(best_starts(cloth, wefts), min(found))
            for number, starts in found:
                reason = None if number == min(found)[0] else "fewest"
                self.judges(reason, accept_starts, cloth, wefts, (number, starts))

    def test_equally_many(self):
        self.assertEqual(best_starts(((1, 1), (0, 0)), (4, 4)), (0, (0,)))
        self.assertEqual(best_starts(((1, 1), (1, 1)), (4, 4)), (1, (0,)))
        self.assertEqual(best_starts(((1, 1), (1, 0)), (4, 4)), (0, (0,)))
        self.assertEqual(best_starts(((1, 1), (0, 1)), (4, 4)), (0, (1,)))
        self.assertEqual(best_starts(((1, 1),) * 6, (5, 4, 3, 2, 1, 0)), (0, (0,) * 6))

    def test_greatest(self):
        for cloth, wefts in some_pieces(222, 30, 24):
            number, starts = best_starts(cloth, wefts)
            self.assertEqual(len(loose_turns(cloth, wefts, starts)), number)
            self.assertIsNone(accept_starts(cloth, wefts, (number, starts)))


class FloatingTest(WeaveTest):
    def test_examples(self):
        self.assertEqual(with_floating(((1, 0),), (0,), (0,)), ((1, 1, 0, 0),))
        self.assertEqual(with_floating(((1, 0),), (0,), (1,)), ((0, 1, 0, 1),))
        self.assertEqual(
            with_floating(CLOTH, (0, 1, 0), (0, 1)), ((1, 1, 0, 1, 0), (0, 0, 1, 0, 1), (0, 0, 1, 1, 1))
        )

    def test_no_turn_is_loose(self):
        for cloth, wefts in some_pieces(223, 150, 9):
            for starts in all_starts(wefts):
                told = with_floating(cloth, wefts, starts)
                self.assertEqual(loose_turns(told, wefts, starts), ())
                self.assertEqual(tuple([row[1:-1] for row in told]), cloth)
                sides = walk(cloth, wefts, starts)[0]
                # Below the end where the pick goes in, so that the end lies above there.
                self.assertEqual([(row[0], row[-1]) for row in told], [(1 - side, side) for side in sides])

    def test_most(self):
        self.assertEqual(len(with_floating(((0,) * 22,), (0,), (0,))[0]), 24)
        for ends in (23, 24):
            self.refuses(TooMany, "ends", with_floating, ((0,) * ends,), (0,), (0,))
            self.refuses(ArgumentError, "starts", with_floating, ((0,) * ends,), (0,), ())
            self.refuses(ArgumentError, "wefts", with_floating, ((0,) * ends,), (), ())


class JoinsTest(WeaveTest):
    def test_examples(self):
        self.assertEqual((joins(()), joins((5,)), joins((0, 0)), joins((0, 1, 0, 0, 2))), (0, 0, 0, 3))
        self.assertEqual(joins((-3, 10 ** 30, -3)), 2)
        self.assertEqual(joins((0, 1) * 12), 23)

    def test_wrong_wefts(self):
        for wefts in (None, 0, "01", [0, 1], (None,), (True,), ("0",), (0, (1,)), (0,) * 25):
            self.refuses(ArgumentError, "wefts", joins, wefts)
        self.stands_any_values(joins, WEFTS)


class WrongArgumentsTest(WeaveTest):
    def test_wefts(self):
        functions = (
            best_starts, lambda cloth, wefts: accept_starts(cloth, wefts, None),
            lambda cloth, wefts: loose_turns(cloth, wefts, None), lambda cloth, wefts: with_floating(cloth, wefts, None),
        )
        wrong = [None, 0, "000", (), (0, 0), (0,) * 4, [0, 0, 0]]
        wrong += [(0, 0, value) for value in (6, -1, True, None, "0", (0,), 10 ** 30)]
        for function in functions:
            self.refuses(ClothError, "form", function, None, None)
            self.refuses(ClothError, "crossing", function, ((2,),), WEFTS)
            for wefts in wrong:
                self.refuses(ArgumentError, "wefts", function, CLOTH, wefts)
            self.stands_any_values(function, CLOTH, WEFTS)
        self.assertEqual(best_starts(CLOTH, (5, 5, 5)), (0, (1,)))

    def test_starts(self):
        wefts = (3, 0, 3)
        for function in (loose_turns, with_floating):
            for starts in [None, 0, "00", (), (0,), (0, 0, 0), [0, 0], *[(0, value) for value in (2, -1, True, None, "0")]]:
                self.refuses(ArgumentError, "starts", function, CLOTH, wefts, starts)
            self.refuses(ArgumentError, "wefts", function, CLOTH, (6, 0, 3), None)
            self.stands_any_values(function, CLOTH, wefts, (0, 1))


class AcceptTest(WeaveTest):
    def reason(self, cloth, wefts, told):
        if type(told) is not tuple or len(told) != 2 or type(told[0]) is not int:
            return "form"
        number, starts = told
        if repr(starts) not in [repr(right) for right in all_starts(wefts)]:
            return "starts"
        if number != len(walk(cloth, wefts, starts)[1]):
            return "turns"
        return None if number == best_starts(cloth, wefts)[0] else "fewest"

    def test_changed_answers(self):
        reasons = set()
        for cloth, wefts in ((CLOTH, WEFTS), (CLOTH, (3, 0, 3)), (((1, 1), (1, 1)), (4, 4)), (((1,),), (0,))):
            right = best_starts(cloth, wefts)
            others = [(len(walk(cloth, wefts, starts)[1]), starts) for starts in all_starts(wefts)]
            for told in [right, *variants(right), *others, *ODD_VALUES]:
                reason = self.reason(cloth, wefts, told)
                self.judges(reason, accept_starts, cloth, wefts, told)
                reasons.add(reason)
        self.assertEqual(reasons, {None, "form", "starts", "turns", "fewest"})

    def test_first_reasons(self):
        self.judges("form", accept_starts, CLOTH, WEFTS, (True, (1,)))
        self.judges("form", accept_starts, CLOTH, WEFTS, (None, None))
        self.judges("starts", accept_starts, CLOTH, WEFTS, (7, (2,)))
        self.judges("turns", accept_starts, CLOTH, WEFTS, (0, (0,)))
        self.judges("fewest", accept_starts, CLOTH, WEFTS, (1, (0,)))
        # Starts that are not the least ones.
        self.judges(None, accept_starts, ((1, 1), (0, 0)), (4, 4), (0, (1,)))
        self.stands_any_values(accept_starts, CLOTH, WEFTS, (0, (1,)))

    def test_small_ones(self):
        for cloth in all_cloths(3, 2):
            for wefts in itertools.product((0, 2), repeat=3):
                self.assertEqual(self.reason(cloth, wefts, best_starts(cloth, wefts)), None)
