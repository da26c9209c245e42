"""Points 125 to 128: shuttles and boxes."""

import itertools
import random

from hangstogether.errors import ArgumentError
from hangstogether.shuttles import accept_throw_table, moves_of, throw_table, throws_for
from tests.helpers import ODD_VALUES, WeaveTest, variants

TWO = ((0, 0), (0, 1))
THROWS = (0, 0, 1, 1)


def slow_moves(boxes, places, throws, free):
    """Return the moves for told boxes, or None if one is no empty box of the other side."""
    places, levels, moves = list(places), [0, 0], 0
    for shuttle, box in zip(throws, free):
        side, left = places[shuttle]
        if not 0 <= box < boxes or (1 - side, box) in places:
            return None
        for at, level in ((side, left), (1 - side, box)):
            moves += abs(levels[at] - level)
            levels[at] = level
        places[shuttle] = (1 - side, box)
    return moves, (tuple(places), tuple(levels))


def slow_table(boxes, places, throws):
    """Return the table by trying all boxes throw by throw."""
    table = []
    for count in range(len(throws) + 1):
        least = {}
        for free in itertools.product(range(boxes), repeat=count):
            told = slow_moves(boxes, places, throws[:count], free)
            if told is not None:
                least[told[1]] = min(told[0], least.get(told[1], told[0]))
        table.append(tuple(sorted(least.items())))
    return tuple(table)


def some_looms(seed, count, throws):
    chance = random.Random(seed)
    found = []
    for _ in range(count):
        boxes = chance.randint(1, 3)
        every = list(itertools.product((0, 1), range(boxes)))
        places = tuple(chance.sample(every, min(chance.randint(1, 3), len(every))))
        found.append((boxes, places, tuple([chance.randrange(len(places)) for _ in range(chance.randint(0, throws))])))
    return found


class ThrowsTest(WeaveTest):
    def test_examples(self):
        self.assertEqual(throws_for(2, TWO, THROWS)[0], 1)
        self.assertEqual(moves_of(2, TWO, THROWS, (0, 0, 0, 1)), 1)
        self.assertIsNone(throws_for(1, ((0, 0), (1, 0)), (0,)))
        self.assertEqual(throws_for(3, TWO, ()), (0, ()))
        self.assertEqual(throw_table(3, TWO, ()), ((((TWO, (0, 0)), 0),),))
        self.assertEqual(throws_for(1, ((1, 0),), (0,) * 24), (0, (0,) * 24))

    def test_tables(self):
        start = ((((0, 0),), (0, 0)), 0)
        self.assertEqual(throw_table(2, ((0, 0),), (0,)), (
            (start,), (((((1, 0),), (0, 0)), 0), ((((1, 1),), (0, 1)), 1)),
        ))
        # The boxes of both sides are moved.
        self.assertEqual(throw_table(3, ((1, 2),), (0,))[1], (
            ((((0, 0),), (0, 2)), 2), ((((0, 1),), (1, 2)), 3), ((((0, 2),), (2, 2)), 4),
        ))
        full = ((0, 0), (1, 0))
        self.assertEqual(throw_table(1, full, (0, 1)), ((((full, (0, 0)), 0),), (), ()))

    def test_throws_that_cannot_be_done(self):
        # Both boxes of the other side are full.
        self.assertIsNone(throws_for(2, ((0, 0), (1, 0), (1, 1)), (0,)))
        self.assertEqual(throws_for(2, ((0, 0), (1, 0), (1, 1)), (1, 0)), (2, (1, 0)))
        self.assertIsNone(throws_for(2, ((0, 0), (0, 1), (1, 1)), (0, 1)))
        self.assertIsNone(throws_for(1, ((0, 0), (1, 0)), (1, 1)))

    def test_beside_trying_all_boxes(self):
        answers = {True: 0, False: 0}
        for boxes, places, throws in some_looms(211, 250, 5):
            table = throw_table(boxes, places, throws)
            self.assertEqual(table, slow_table(boxes, places, throws))
            self.assertIsNone(accept_throw_table(boxes, places, throws, table))
            every = itertools.product(range(boxes), repeat=len(throws))
            found = [slow_moves(boxes, places, throws, free) for free in every]
            least = min([told[0] for told in found if told is not None], default=None)
            told = throws_for(boxes, places, throws)
            answers[told is not None] += 1
            if least is None:
                self.assertIsNone(told)
            else:
                self.assertEqual(told[0], least)
                self.assertEqual(slow_moves(boxes, places, throws, told[1])[0], least)
                self.assertEqual(moves_of(boxes, places, throws, told[1]), least)
        self.assertGreater(min(answers.values()), 20)

    def test_longest(self):
        chance = random.Random(212)
        for places in (((0, 0),), TWO, ((0, 0), (1, 2), (1, 0))):
            throws = tuple([chance.randrange(len(places)) for _ in range(24)])
            told = throws_for(3, places, throws)
            table = throw_table(3, places, throws)
            self.assertEqual(min([moves for _, moves in table[-1]]), told[0])
            self.assertEqual(moves_of(3, places, throws, told[1]), told[0])
            self.assertIsNone(accept_throw_table(3, places, throws, table))

    def test_wrong_arguments(self):
        functions = (
            throws_for, throw_table, lambda *told: accept_throw_table(*told, None), lambda *told: moves_of(*told, None),
        )
        no_places = [None, 0, (), "00", list(TWO), (None,), ((0,),), ((0, 0, 0),), ([0, 0],), ((0, 0), (0, 0)), (0, 0)]
        no_places += [((value, 0),) for value in (2, -1, True, None, "0", (0,))]
        no_places += [((0, value),) for value in (2, -1, True, None, "0", (0,))]
        no_places.append(((0, 0), (0, 1), (1, 0), (1, 1)))
        no_throws = [None, 0, "0", [0], (None,), (True,), (2,), (-1,), ("0",), ((0,),), (0, 2), (0,) * 25]
        for function in functions:
            for boxes in (0, 4, -1, True, None, "1", (1,), 10 ** 30):
                self.refuses(ArgumentError, "boxes", function, boxes, None, None)
            for places in no_places:
                self.refuses(ArgumentError, "places", function, 2, places, None)
                self.refuses(ArgumentError, "places", function, 2, places, ())
            for throws in no_throws:
                self.refuses(ArgumentError, "throws", function, 2, TWO, throws)
            self.refuses(ArgumentError, "places", function, 1, TWO, ())
            self.stands_any_values(function, 2, TWO, THROWS)


class MovesOfTest(WeaveTest):
    def test_all_boxes(self):
        for boxes, places, throws in some_looms(213, 40, 4) + [(2, TWO, THROWS)]:
            for free in itertools.product(range(-1, boxes + 1), repeat=len(throws)):
                told = slow_moves(boxes, places, throws, free)
                if told is None:
                    self.refuses(ArgumentError, "free", moves_of, boxes, places, throws, free)
                else:
                    self.assertEqual(moves_of(boxes, places, throws, free), told[0])

    def test_wrong_boxes(self):
        right = (0, 0, 0, 1)
        for free in [*variants(right), *ODD_VALUES]:
            if type(free) is tuple and len(free) == 4 and {type(box) for box in free} == {int}:
                told = slow_moves(2, TWO, THROWS, free)
                if told is not None:
                    self.assertEqual(moves_of(2, TWO, THROWS, free), told[0])
                    continue
            self.refuses(ArgumentError, "free", moves_of, 2, TWO, THROWS, free)
        # A box that is not empty, too few boxes and too many.
        self.refuses(ArgumentError, "free", moves_of, 2, TWO, (0, 1), (1, 1))
        self.refuses(ArgumentError, "free", moves_of, 2, TWO, (0, 1), (1,))
        self.refuses(ArgumentError, "free", moves_of, 2, TWO, (0, 1), (1, 0, 0))
        self.refuses(ArgumentError, "free", moves_of, 2, TWO, (0, 1), (True, 0))
        self.assertEqual(moves_of(2, TWO, (0, 1), (1, 0)), 3)
        self.assertEqual(moves_of(2, TWO, (), ()), 0)
        self.stands_any_values(moves_of, 2, TWO, THROWS, right)


class AcceptTest(WeaveTest):
    def is_box(self, value, boxes):
        return type(value) is int and 0 <= value < boxes

    def is_state(self, value, boxes, shuttles):
        if type(value) is not tuple or len(value) != 2 or not all([type(part) is tuple for part in value]):
            return False
        places, levels = value
        if len(places) != shuttles or len(levels) != 2 or not all([self.is_box(box, boxes) for box in levels]):
            return False
        for place in places:
            if type(place) is not tuple or len(place) != 2 or not self.is_box(place[0], 2):
                return False
            if not self.is_box(place[1], boxes):
                return False
        return len(set(places)) == len(places)

    def reason(self, boxes, places, throws, table):
        if type(table) is not tuple or len(table) != len(throws) + 1 or not all([type(part) is tuple for part in table]):
            return "form"
        for pair in sum(table, ()):
            if type(pair) is not tuple or len(pair) != 2 or type(pair[1]) is not int:
                return "form"
            if not self.is_state(pair[0], boxes, len(places)):
                return "form"
        right = slow_table(boxes, places, throws)
        if table[0] != right[0]:
            return "start"
        return None if table == right else "layer"

    def test_changed_tables(self):
        reasons = set()
        for boxes, places, throws in ((2, TWO, (0, 1)), (1, ((0, 0), (1, 0)), (0,)), (3, ((1, 2),), (0,)), (2, TWO, ())):
            right = throw_table(boxes, places, throws)
            for table in [right, *variants(right), *ODD_VALUES]:
                reason = self.reason(boxes, places, throws, table)
                self.judges(reason, accept_throw_table, boxes, places, throws, table)
                reasons.add(reason)
        self.assertEqual(reasons, {None, "form", "start", "layer"})

    def test_other_tables(self):
        table = throw_table(2, TWO, THROWS)
        self.judges("form", accept_throw_table, 2, TWO, THROWS[:3], table)
        self.judges("form", accept_throw_table, 2, ((0, 0),), THROWS[:0] + (0,) * 4, table)
        self.judges("start", accept_throw_table, 2, TWO[::-1], THROWS, table)
        self.judges("start", accept_throw_table, 2, TWO, THROWS, ((((TWO, (0, 1)), 0),), *table[1:]))
        self.judges("start", accept_throw_table, 2, TWO, THROWS, ((), (), (), (), ()))
        self.judges("layer", accept_throw_table, 2, TWO, THROWS, (table[0], (), (), (), ()))
        self.judges("layer", accept_throw_table, 2, TWO, THROWS, (*table[:4], table[4][::-1]))
        self.judges("layer", accept_throw_table, 2, TWO, (0, 0, 1, 0), table)
        self.stands_any_values(accept_throw_table, 2, TWO, THROWS, table)
