"""Points 82 to 84: orders of warps."""

import itertools
import random

from hangstogether.errors import ArgumentError
from hangstogether.looms import accept_order_table, change, cost_of_order, least_order, order_table
from tests.helpers import ODD_VALUES, WeaveTest, variants

DRAFT = ((0, 1, 0), ((0,), (1,)), ((0,), (1,)))
LONGER = ((0, 1, 1, 2, 0), ((0, 2), (1,), (3,)), ((),))
ONE = ("one", DRAFT, "a")
TWO = ("two", LONGER, "a")
THREE = ("three", DRAFT, "b")
JOBS = (ONE, TWO, THREE)
PRICES = (100, 10, 1)


def slow_change(first, second, prices):
    ties = [{(treadle, shaft) for treadle, row in enumerate(job[1][1]) for shaft in row} for job in (first, second)]
    unlike = len(ties[0] - ties[1]) + len(ties[1] - ties[0])
    if first[2] == second[2]:
        places = list(itertools.zip_longest(first[1][0], second[1][0]))
        return prices[1] * len([1 for one, other in places if one != other]) + prices[2] * unlike
    return prices[0] + prices[1] * len(second[1][0]) + prices[2] * unlike


def slow_cost(order, prices):
    return sum([slow_change(job, further, prices) for job, further in zip(order, order[1:])])


def slow_table(jobs, prices):
    """Return the table from all orders of all sets of jobs."""
    table = []
    for number in range(2 ** len(jobs)):
        members = [place for place in range(len(jobs)) if number & 2 ** place]
        row = []
        for last in range(len(jobs)):
            orders = [order for order in itertools.permutations(members) if order and order[-1] == last]
            costs = [slow_cost([jobs[place] for place in order], prices) for order in orders]
            row.append(min(costs) if costs else None)
        table.append(tuple(row))
    return tuple(table)


def some_jobs(chance, count, beams):
    found = []
    for number in range(count):
        threading = tuple([chance.randrange(4) for _ in range(chance.randint(1, 6))])
        tieup = tuple([tuple([s for s in range(4) if chance.randrange(2)]) for _ in range(chance.randint(0, 3))])
        found.append(("job" + str(number), (threading, tieup, ((),)), chance.choice(beams)))
    return tuple(found)


class ChangeTest(WeaveTest):
    def test_examples(self):
        self.assertEqual(change(ONE, ONE, PRICES), 0)
        # Places 2, 3 and 4 differ; the ties (0, 2) and (2, 3) are in one tie-up alone.
        self.assertEqual(change(ONE, TWO, PRICES), 32)
        self.assertEqual(change(TWO, ONE, PRICES), 32)
        self.assertEqual(change(ONE, THREE, PRICES), 130)
        self.assertEqual(change(THREE, TWO, PRICES), 152)
        self.assertEqual(change(TWO, THREE, PRICES), 132)
        self.assertEqual(change(ONE, THREE, (0, 0, 0)), 0)

    def test_ties_go_by_numbers_of_treadles(self):
        other = ("x", ((0, 1, 0), ((1,), (0,)), ((),)), "a")
        self.assertEqual(change(ONE, other, PRICES), 4)
        self.assertEqual(change(ONE, ("x", ((0, 1, 0), (), ((),)), "a"), PRICES), 2)
        self.assertEqual(change(ONE, ("x", ((0, 1, 0), ((0, 1), ()), ((),)), "a"), PRICES), 2)

    def test_some_jobs(self):
        chance = random.Random(91)
        for _ in range(200):
            first, second = some_jobs(chance, 2, "ab")
            prices = tuple([chance.randint(0, 1000) for _ in range(3)])
            self.assertEqual(change(first, second, prices), slow_change(first, second, prices))

    def test_wrong_jobs(self):
        wrong = [
            None, 0, (), ("one", DRAFT), (*ONE, 1), list(ONE), (1, DRAFT, "a"), ("one", DRAFT, 1), ("one", DRAFT, None),
            (None, DRAFT, "a"), ("one", ((), (), ()), "a"), ("one", None, "a"), ("one", list(DRAFT), "a"),
            ("one", ((True,), (), ((),)), "a"),
        ]
        for job in wrong:
            self.refuses(ArgumentError, "jobs", change, job, ONE, PRICES)
            self.refuses(ArgumentError, "jobs", change, ONE, job, None)
            for function in (least_order, order_table):
                self.refuses(ArgumentError, "jobs", function, (ONE, job), PRICES)
                self.refuses(ArgumentError, "jobs", function, (job,), None)
            self.refuses(ArgumentError, "jobs", accept_order_table, (ONE, job), None, None)
            self.refuses(ArgumentError, "jobs", cost_of_order, (ONE, job), None, None)
        self.stands_any_values(change, ONE, TWO, PRICES)

    def test_any_strings(self):
        long = ("", DRAFT, "x" * 1000)
        self.assertEqual(change(long, ("x" * 1000, DRAFT, "x" * 1000), PRICES), 0)
        least, names = least_order((long, ("a b", DRAFT, "")), PRICES)
        self.assertEqual((least, sorted(names)), (130, ["", "a b"]))

    def test_wrong_prices(self):
        wrong = [None, 0, (), (1, 2), (1, 2, 3, 4), [1, 2, 3]]
        for value in (-1, 1001, True, None, "1", (1,)):
            wrong += [(value, 0, 0), (0, value, 0), (0, 0, value)]
        for prices in wrong:
            self.refuses(ArgumentError, "prices", change, ONE, TWO, prices)
            self.refuses(ArgumentError, "prices", least_order, JOBS, prices)
            self.refuses(ArgumentError, "prices", order_table, JOBS, prices)
            self.refuses(ArgumentError, "prices", accept_order_table, JOBS, prices, None)
            self.refuses(ArgumentError, "prices", cost_of_order, JOBS, prices, None)
        self.assertEqual(change(ONE, THREE, (1000, 1000, 1000)), 4000)


class OrderTest(WeaveTest):
    def test_one_job(self):
        self.assertEqual(least_order((ONE,), PRICES), (0, ("one",)))
        self.assertEqual(order_table((ONE,), PRICES), ((None,), (0,)))

    def test_example(self):
        self.assertEqual(order_table(JOBS, PRICES), slow_table(JOBS, PRICES))
        self.assertEqual(least_order(JOBS, PRICES)[0], 162)

    def test_beside_all_orders(self):
        chance = random.Random(92)
        for _ in range(60):
            jobs = some_jobs(chance, chance.randint(1, 5), chance.choice(("a", "ab", "abc")))
            prices = tuple([chance.randint(0, 20) for _ in range(3)])
            table = order_table(jobs, prices)
            self.assertEqual(table, slow_table(jobs, prices))
            self.assertIsNone(accept_order_table(jobs, prices, table))
            least, names = least_order(jobs, prices)
            self.assertEqual(least, min([slow_cost(order, prices) for order in itertools.permutations(jobs)]))
            self.assertEqual(sorted(names), sorted([job[0] for job in jobs]))
            self.assertEqual(cost_of_order(jobs, prices, names), least)
            for order in itertools.permutations(jobs):
                told = cost_of_order(jobs, prices, tuple([job[0] for job in order]))
                self.assertEqual(told, slow_cost(order, prices))

    def test_most_jobs(self):
        jobs = some_jobs(random.Random(93), 10, "abc")
        least, names = least_order(jobs[:9], PRICES)
        self.assertEqual(cost_of_order(jobs[:9], PRICES, names), least)
        self.assertEqual(least, min([cost for cost in order_table(jobs[:9], PRICES)[-1]]))
        self.assertIsNone(accept_order_table(jobs[:9], PRICES, order_table(jobs[:9], PRICES)))
        for function in (least_order, order_table):
            self.refuses(ArgumentError, "jobs", function, jobs, PRICES)
            self.refuses(ArgumentError, "jobs", function, (), PRICES)

    def test_wrong_tuples_of_jobs(self):
        for jobs in (None, 0, "ab", [ONE], ONE, (ONE, ONE), (ONE, ("one", LONGER, "c"))):
            for function in (least_order, order_table):
                self.refuses(ArgumentError, "jobs", function, jobs, None)
            self.refuses(ArgumentError, "jobs", cost_of_order, jobs, None, None)
            self.refuses(ArgumentError, "jobs", accept_order_table, jobs, None, None)
        self.stands_any_values(least_order, JOBS, PRICES)
        self.stands_any_values(order_table, JOBS, PRICES)

    def test_wrong_names(self):
        wrong = (
            None, 0, "one", (), ("one", "two"), ("one", "two", "two"), ("one", "two", "three", "one"),
            ["one", "two", "three"], ("one", "two", "four"), ("one", "two", 3), ("one", "two", None), (ONE, TWO, THREE),
            ("one", "two", ["three"]),
        )
        for names in wrong:
            self.refuses(ArgumentError, "names", cost_of_order, JOBS, PRICES, names)
        self.assertEqual(cost_of_order(JOBS, PRICES, ("two", "one", "three")), 162)
        self.stands_any_values(cost_of_order, JOBS, PRICES, ("one", "two", "three"))


class AcceptTest(WeaveTest):
    def reason(self, jobs, prices, table):
        if type(table) is not tuple or len(table) != 2 ** len(jobs):
            return "form"
        for number, row in enumerate(table):
            kinds = [int if number & 2 ** place else type(None) for place in range(len(jobs))]
            if type(row) is not tuple or [type(part) for part in row] != kinds:
                return "form"
        return None if table == slow_table(jobs, prices) else "entry"

    def test_changed_tables(self):
        for jobs in (JOBS, JOBS[:1], JOBS[1:]):
            for table in variants(order_table(jobs, PRICES)):
                self.judges(self.reason(jobs, PRICES, table), accept_order_table, jobs, PRICES, table)

    def test_other_tables(self):
        table = order_table(JOBS, PRICES)
        self.judges("entry", accept_order_table, JOBS, (100, 10, 2), table)
        self.judges("form", accept_order_table, JOBS[:2], PRICES, table)
        for value in ODD_VALUES:
            self.judges(self.reason(JOBS, PRICES, value), accept_order_table, JOBS, PRICES, value)
        self.stands_any_values(accept_order_table, JOBS, PRICES, table)
