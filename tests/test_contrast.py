"""Points 45 to 48: the fewest colours for contrast."""

import itertools
import random

from hangstogether.contrast import accept_colours, fewest_colours
from hangstogether.errors import ArgumentError, ClothError, PaperError, TooMany
from tests.helpers import WeaveTest, answer_or_error, some_cloths, threads_in, variants

PLAIN = ((1, 0), (0, 1))
# The first pick shows end 0, pick 0, end 2; the second one pick 1, end 1, pick 1.
CLOTH = ((1, 0, 1), (0, 1, 0))
PAIRS = (((0, 0), (0, 1)), ((0, 1), (1, 0)), ((0, 0), (1, 0)))
# All ends lie above, so each crossing shows its end.
FACE = ((1,) * 24,)


def among(numbers):
    """Return the pairs of crossings at which each two of some ends of FACE must look unlike."""
    return tuple([((0, one), (0, other)) for one, other in itertools.combinations(numbers, 2)])


def shown(cloth, crossing):
    pick, end = crossing
    return ("end", end) if cloth[pick][end] else ("pick", pick)


class Slow:
    """What points 45 to 47 say, word by word."""

    def __init__(self, cloth, pairs):
        self.cloth = cloth
        self.bars = [{shown(cloth, one), shown(cloth, other)} for one, other in pairs]
        self.asked = [thread for thread in threads_in(cloth) if any([thread in bar for bar in self.bars])]

    def shows_one_twice(self):
        return any([len(bar) == 1 for bar in self.bars])

    def is_row(self, row):
        colours = dict(zip(self.asked, row))
        for bar in self.bars:
            one, other = bar
            if one in colours and other in colours and colours[one] == colours[other]:
                return False
        return all([colour <= max(row[:place], default=-1) + 1 for place, colour in enumerate(row)])

    def longer(self, row, number):
        if len(row) == len(self.asked):
            return []
        return [(*row, colour) for colour in range(number) if self.is_row((*row, colour))]

    def looked_at(self, number, row=()):
        """Return the rows in the order in which they are looked at."""
        return [row] + [further for longer in self.longer(row, number) for further in self.looked_at(number, longer)]

    def paper(self, number, row=()):
        return tuple([self.paper(number, further) for further in self.longer(row, number)])

    def answer(self):
        number = 1
        while True:
            not_whole = 0
            for row in self.looked_at(number):
                if len(row) == len(self.asked):
                    return number, self.plan(row), () if number == 1 else self.paper(number - 1)
                not_whole += 1
                if not_whole > 400:
                    return TooMany, "choices"
            number += 1

    def plan(self, row):
        colours = dict(zip(self.asked, row))
        ends = tuple([colours.get(("end", end), 0) for end in range(len(self.cloth[0]))])
        return ends, tuple([colours.get(("pick", pick), 0) for pick in range(len(self.cloth))])


def some_pairs(seed, cloth, count):
    chance = random.Random(seed)
    places = [(pick, end) for pick in range(len(cloth)) for end in range(len(cloth[0]))]
    pairs = [(chance.choice(places), chance.choice(places)) for _ in range(count)]
    return tuple([(one, other) for one, other in pairs if shown(cloth, one) != shown(cloth, other)])


class FewestColoursTest(WeaveTest):
    def test_examples(self):
        self.assertEqual(fewest_colours(CLOTH, PAIRS), (3, ((0, 0, 0), (1, 2)), Slow(CLOTH, PAIRS).paper(2)))
        self.assertEqual(fewest_colours(CLOTH, PAIRS)[2], (((),),))
        self.assertEqual(fewest_colours(CLOTH, PAIRS[:1]), (2, ((0, 0, 0), (1, 0)), ((),)))

    def test_nothing_asked(self):
        self.assertEqual(fewest_colours(PLAIN, ()), (1, ((0, 0), (0, 0)), ()))
        self.assertIsNone(accept_colours(PLAIN, (), (1, ((0, 0), (0, 0)), ())))

    def test_one_thread_twice(self):
        for pair in (((0, 0), (0, 0)), ((0, 1), (0, 1)), ((1, 0), (1, 2))):
            self.assertIsNone(fewest_colours(CLOTH, (pair,)))
            self.assertIsNone(fewest_colours(CLOTH, (*PAIRS, pair)))

    def test_some_pairs(self):
        chance = random.Random(27)
        for seed, cloth in enumerate(some_cloths(28, 150, 5)):
            pairs = some_pairs(seed, cloth, chance.randint(0, 14))
            slow = Slow(cloth, pairs)
            told = fewest_colours(cloth, pairs)
            self.assertEqual(told, slow.answer())
            self.assertIsNone(accept_colours(cloth, pairs, told))

    def test_most_pairs(self):
        pairs = among(range(9)) + among((9, 10, 11)) + (((0, 11), (0, 12)),)
        self.assertEqual(len(pairs), 40)
        number, plan, paper = fewest_colours(FACE, pairs)
        self.assertEqual((number, plan[0][:13]), (9, (0, 1, 2, 3, 4, 5, 6, 7, 8, 0, 1, 2, 0)))
        self.assertIsNone(accept_colours(FACE, pairs, (number, plan, paper)))

    def test_wrong_pairs(self):
        right = ((0, 0), (0, 1))
        wrong = (
            None, 0, "ab", right, list(PAIRS), (list(right),), ((right[0], list(right[1])),), (right[:1],),
            ((*right, right[0]),), (right,) * 41, (((0, 0), (0, 3)),), (((0, 0), (2, 0)),), (((0, 0), (-1, 0)),),
            (((0, 0), (0, True)),), (((False, 0), (0, 1)),), (((0, 0), (0,)),), (((0, 0), None),), ((0, 1),), (None,),
            (((0, 0), ("0", 0)),),
        )
        for pairs in wrong:
            self.refuses(ArgumentError, "pairs", fewest_colours, CLOTH, pairs)
            self.refuses(ArgumentError, "pairs", accept_colours, CLOTH, pairs, None)
            self.refuses(ClothError, "form", fewest_colours, None, pairs)
            self.refuses(ClothError, "form", accept_colours, None, pairs, None)
        self.assertEqual(fewest_colours(CLOTH, (right,) * 40)[0], 2)
        self.stands_any_values(fewest_colours, CLOTH, PAIRS)


class TooManyTest(WeaveTest):
    def hard(self, free, further=()):
        """Return pairs of threads that are not bound, first, and behind them of four that are all unlike."""
        ends = range(free, free + 4)
        return tuple([((0, one), (0, free)) for one in range(free)]) + among(ends) + further

    def test_choices(self):
        pairs = self.hard(7)
        self.assertEqual(Slow(FACE, pairs).answer(), (TooMany, "choices"))
        self.refuses(TooMany, "choices", fewest_colours, FACE, pairs)

    def test_edge_of_choices(self):
        enough = (
            (2, 10), (7, 9), (1, 11), (2, 11), (6, 9), (10, 11), (5, 10), (0, 1), (6, 8), (3, 8), (1, 10), (3, 6), (3, 4),
            (3, 7),
        )
        many = (
            (3, 7), (4, 9), (6, 9), (4, 6), (0, 9), (3, 4), (8, 9), (3, 6), (7, 9), (3, 9), (2, 5), (1, 10), (2, 4),
        )
        for ends, most in ((enough, 400), (many, 401)):
            pairs = tuple([((0, one), (0, other)) for one, other in ends])
            slow = Slow(FACE, pairs)
            counts = [[len(row) == len(slow.asked) for row in slow.looked_at(number)] for number in (1, 2, 3)]
            counts = [told.index(True) if True in told else len(told) for told in counts]
            self.assertEqual(max(counts), most)
            told = answer_or_error(fewest_colours, FACE, pairs)
            self.assertEqual(told, slow.answer())
            self.assertEqual(told == (TooMany, "choices"), most == 401)

    def test_accept_never_raises_it(self):
        pairs = self.hard(7)
        slow = Slow(FACE, pairs)
        colours = tuple([0] * 7 + [1, 2, 3, 4] + [0] * 13)
        plan = (colours, (0,))
        self.assertIsNone(accept_colours(FACE, pairs, (4, ((0,) * 7 + (1, 0, 2, 3) + (3,) * 13, (2,)), slow.paper(3))))
        self.refuses(PaperError, "paper", accept_colours, FACE, pairs, (5, plan, slow.paper(4)))
        self.refuses(PaperError, "paper", accept_colours, FACE, pairs, (5, plan, slow.paper(3)))
        self.refuses(PaperError, "plan", accept_colours, FACE, pairs, (4, plan, slow.paper(3)))


class AcceptTest(WeaveTest):
    def reason(self, cloth, pairs, told):
        slow = Slow(cloth, pairs)
        if slow.shows_one_twice():
            return None if told is None else "form"
        if type(told) is not tuple or len(told) != 3 or type(told[0]) is not int or told[0] < 1:
            return "form"
        number, plan, paper = told
        if type(plan) is not tuple or [type(part) for part in plan] != [tuple, tuple]:
            return "plan"
        if [len(part) for part in plan] != [len(cloth[0]), len(cloth)]:
            return "plan"
        if not all([type(part) is int and 0 <= part < number for row in plan for part in row]):
            return "plan"
        colours = dict(zip(threads_in(cloth), plan[0] + plan[1]))
        if any([len({colours[thread] for thread in bar}) == 1 for bar in slow.bars]):
            return "plan"
        if number == 1:
            return None if paper == () else "paper"
        rows = slow.looked_at(number - 1)
        enough = any([len(row) == len(slow.asked) for row in rows])
        return None if not enough and repr(paper) == repr(slow.paper(number - 1)) else "paper"

    def check(self, cloth, pairs, told):
        reason = self.reason(cloth, pairs, told)
        if reason is None:
            self.assertIsNone(accept_colours(cloth, pairs, told))
        else:
            self.refuses(PaperError, reason, accept_colours, cloth, pairs, told)

    def test_one_thing_changed(self):
        asked = ((CLOTH, PAIRS), (CLOTH, PAIRS[:1]), (PLAIN, ()), (((1, 1, 1, 1),), among(range(4))))
        for cloth, pairs in asked:
            for told in variants(fewest_colours(cloth, pairs)):
                if isinstance(told, tuple) and told and told[0] == 10 ** 30:
                    self.refuses(PaperError, "paper", accept_colours, cloth, pairs, told)
                else:
                    self.check(cloth, pairs, told)

    def test_all_plans(self):
        paper = fewest_colours(CLOTH, PAIRS)[2]
        for plan in itertools.product(range(3), repeat=5):
            self.check(CLOTH, PAIRS, (3, (plan[:3], plan[3:]), paper))

    def test_one_thread_twice(self):
        pairs = (*PAIRS, ((0, 0), (0, 0)))
        self.assertIsNone(accept_colours(CLOTH, pairs, None))
        for told in (fewest_colours(CLOTH, PAIRS), 0, False, (), "None"):
            self.refuses(PaperError, "form", accept_colours, CLOTH, pairs, told)
        self.refuses(PaperError, "form", accept_colours, CLOTH, PAIRS, None)

    def test_more_colours_than_needed(self):
        plan = ((0, 0, 0), (1, 2))
        for number in (4, 5, 1000):
            for paper in ((), fewest_colours(CLOTH, PAIRS)[2], Slow(CLOTH, PAIRS).paper(3), ((((),),),)):
                self.refuses(PaperError, "paper", accept_colours, CLOTH, PAIRS, (number, plan, paper))
        self.refuses(PaperError, "paper", accept_colours, PLAIN, (), (2, ((0, 0), (0, 0)), ()))

    def test_order_of_errors(self):
        for number in (0, -1, True, None, "3", (3,)):
            self.refuses(PaperError, "form", accept_colours, CLOTH, PAIRS, (number, None, None))
        self.refuses(PaperError, "plan", accept_colours, CLOTH, PAIRS, (3, None, None))
        self.refuses(PaperError, "plan", accept_colours, CLOTH, PAIRS, (2, ((0, 0, 0), (1, 2)), ((),)))
        self.refuses(PaperError, "plan", accept_colours, CLOTH, PAIRS, (3, ((0, 0, 0), (True, 2)), None))
        self.refuses(PaperError, "paper", accept_colours, CLOTH, PAIRS, (3, ((0, 0, 0), (1, 2)), None))

    def test_any_values(self):
        told = fewest_colours(CLOTH, PAIRS)
        self.stands_any_values(accept_colours, CLOTH, PAIRS, told)
        self.stands_any_values(lambda *parts: accept_colours(CLOTH, PAIRS, parts), *told)
