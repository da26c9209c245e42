"""Points 111 to 113: threading a loom anew."""

import itertools
import random

from hangstogether.errors import ArgumentError
from hangstogether.rethreading import accept_rethread, rethread
from tests.helpers import ODD_VALUES, WeaveTest, variants

NOW, WANTED = (0, 1, 2, 0), (1, 0, 2, 2)


def slow_moves(now, wanted, order):
    return len([1 for here, group in zip(now, wanted) if order[group] != here])


def slow_fewest(now, wanted, shafts):
    return min([slow_moves(now, wanted, order) for order in itertools.permutations(range(shafts))])


def bears_out(now, wanted, shafts, number, prices):
    groups, places = prices
    for group, place in itertools.product(range(shafts), repeat=2):
        moved = len([1 for here, other in zip(now, wanted) if other == group and here != place])
        if groups[group] + places[place] > moved:
            return False
    return sum(groups + places) == number


def some_threadings(seed, count, most, ends):
    chance = random.Random(seed)
    found = []
    for _ in range(count):
        shafts, many = chance.randint(1, most), chance.randint(1, ends)
        now = tuple([chance.randrange(shafts) for _ in range(many)])
        # Often one threading comes from the other one by some order and few moves.
        order = chance.sample(range(shafts), shafts)
        wanted = tuple([chance.randrange(shafts) if chance.random() < 0.4 else order.index(here) for here in now])
        found.append((now, wanted, shafts))
    return found


class RethreadTest(WeaveTest):
    def test_examples(self):
        self.assertEqual(rethread(NOW, WANTED, 3)[:2], (1, (1, 0, 2)))
        self.assertEqual(rethread((0,), (0,), 1), (0, (0,), ((0,), (0,))))
        self.assertEqual(rethread((0, 0, 0), (0, 1, 2), 3)[0], 2)
        self.assertEqual(rethread((0, 1, 2), (2, 2, 2), 3)[0], 2)
        self.assertEqual(rethread((5, 5, 3), (0, 0, 15), 16)[0], 0)
        self.assertEqual(rethread(tuple(range(16)), tuple(range(16))[::-1], 16)[:2], (0, tuple(range(16))[::-1]))

    def test_beside_trying_all_orders(self):
        for now, wanted, shafts in some_threadings(161, 300, 5, 24) + some_threadings(162, 100, 6, 8):
            told = rethread(now, wanted, shafts)
            number, order, prices = told
            self.assertEqual(number, slow_fewest(now, wanted, shafts))
            self.assertEqual((sorted(order), slow_moves(now, wanted, order)), (list(range(shafts)), number))
            self.assertTrue(bears_out(now, wanted, shafts, number, prices))
            self.assertIsNone(accept_rethread(now, wanted, shafts, told))

    def test_small_ones(self):
        for shafts, ends in ((1, 3), (2, 3), (3, 2)):
            every = list(itertools.product(range(shafts), repeat=ends))
            for now, wanted in itertools.product(every, repeat=2):
                told = rethread(now, wanted, shafts)
                self.assertEqual(told[0], slow_fewest(now, wanted, shafts))
                self.assertTrue(bears_out(now, wanted, shafts, told[0], told[2]))

    def test_greatest(self):
        for now, wanted, shafts in some_threadings(163, 150, 16, 24):
            told = rethread(now, wanted, shafts)
            self.assertEqual((sorted(told[1]), slow_moves(now, wanted, told[1])), (list(range(shafts)), told[0]))
            # Prices that bear it out show that no order moves fewer ends.
            self.assertTrue(bears_out(now, wanted, shafts, told[0], told[2]))
            self.assertIsNone(accept_rethread(now, wanted, shafts, told))

    def test_wrong_arguments(self):
        functions = (rethread, lambda now, wanted, shafts: accept_rethread(now, wanted, shafts, None))
        no_threadings = (
            None, 0, "01", (), [0, 1, 2, 0], (0, 1, 2, 3), (0, 1, 2, -1), (0, 1, 2, True), (0, 1, 2, None),
            (0, 1, 2, "0"), (0, 1, 2, (0,)), (0,) * 25,
        )
        for function in functions:
            for shafts in (0, 17, -1, True, None, "3", (3,), 10 ** 30):
                self.refuses(ArgumentError, "shafts", function, None, None, shafts)
            for value in no_threadings:
                self.refuses(ArgumentError, "now", function, value, None, 3)
                self.refuses(ArgumentError, "now", function, value, WANTED, 3)
                self.refuses(ArgumentError, "wanted", function, NOW, value, 3)
            for value in ((0, 1, 2), (0, 1, 2, 0, 1)):
                self.refuses(ArgumentError, "wanted", function, NOW, value, 3)
                self.refuses(ArgumentError, "wanted", function, value, NOW, 3)
            self.stands_any_values(function, NOW, WANTED, 3)
        self.assertEqual(rethread((0,) * 24, (1,) * 24, 2)[:2], (0, (1, 0)))


class AcceptTest(WeaveTest):
    def is_price_row(self, value, shafts):
        return type(value) is tuple and len(value) == shafts and {type(part) for part in value} == {int}

    def reason(self, now, wanted, shafts, told):
        if type(told) is not tuple or len(told) != 3 or type(told[0]) is not int:
            return "form"
        number, order, prices = told
        if type(prices) is not tuple or len(prices) != 2 or not all([self.is_price_row(row, shafts) for row in prices]):
            return "form"
        if repr(order) not in [repr(right) for right in itertools.permutations(range(shafts))]:
            return "order"
        if number != slow_moves(now, wanted, order):
            return "moves"
        return None if bears_out(now, wanted, shafts, number, prices) else "prices"

    def test_changed_answers(self):
        reasons = set()
        for now, wanted, shafts in ((NOW, WANTED, 3), ((0,), (0,), 1), ((1, 1, 0), (0, 1, 1), 2)):
            right = rethread(now, wanted, shafts)
            for told in [right, *variants(right), *ODD_VALUES]:
                reason = self.reason(now, wanted, shafts, told)
                self.judges(reason, accept_rethread, now, wanted, shafts, told)
                reasons.add(reason)
        self.assertEqual(reasons, {None, "form", "order", "moves", "prices"})

    def test_all_orders(self):
        for now, wanted, shafts in some_threadings(164, 40, 4, 10):
            number, _, prices = rethread(now, wanted, shafts)
            for order in itertools.permutations(range(shafts)):
                moved = slow_moves(now, wanted, order)
                # For an order that moves more no prices are right.
                reason = None if moved == number else "prices"
                self.judges(reason, accept_rethread, now, wanted, shafts, (moved, order, prices))

    def test_other_prices(self):
        number, order, (groups, places) = rethread(NOW, WANTED, 3)
        for more in (-7, 1, 10 ** 30):
            other = tuple([price + more for price in groups]), tuple([price - more for price in places])
            self.judges(None, accept_rethread, NOW, WANTED, 3, (number, order, other))
        self.judges("moves", accept_rethread, NOW, WANTED, 3, (2, order, ((2, 0, 0), (0, 0, 0))))
        self.judges("prices", accept_rethread, NOW, WANTED, 3, (1, order, ((0, 0, 0), (0, 0, 0))))
        self.judges("order", accept_rethread, NOW, WANTED, 3, (1, (1, 0, 1), ((0, 0, 0), (0, 0, 0))))
        self.stands_any_values(accept_rethread, NOW, WANTED, 3, (number, order, (groups, places)))
