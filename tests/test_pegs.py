"""Points 88 to 90: pegs."""

import functools
import itertools
import math
import random

from hangstogether.errors import ArgumentError, DraftError, TooMany
from hangstogether.pegs import (
    accept_chain_table,
    chain_table,
    joined,
    period,
    plan_of,
    shortest,
    size,
    unrolled,
)
from tests.helpers import ODD_VALUES, WeaveTest, variants

A, B, C = (0,), (1, 3), ()
PLAN = (A, B, A, B, C)
NO_PLANS = (
    None, 0, "", (), (None,), [A], ([0],), (0,), ((1, 0),), ((0, 0),), ((16,),), ((-1,),), ((True,),), (("0",),),
    (A,) * 25, (A, (2, (A, B))), ((None,),), (A, B, 5),
)


def nested(depth):
    """Return a chain with so many chains within one another, a row in each of them."""
    chain = (A,)
    for _ in range(depth - 1):
        chain = (A, (2, chain))
    return chain


def slow_rows(chain):
    found = []
    for part in chain:
        if part and isinstance(part[-1], tuple):
            found += slow_rows(part[1]) * part[0]
        else:
            found.append(part)
    return found


@functools.lru_cache(maxsize=None)
def slow_size(plan):
    """Return the least size of a chain, trying all ways to part a plan and to repeat a part."""
    sizes = [len(plan)]
    for cut in range(1, len(plan)):
        sizes.append(slow_size(plan[:cut]) + slow_size(plan[cut:]))
        if plan == (plan[:cut] * len(plan))[:len(plan)] and len(plan) % cut == 0:
            sizes.append(1 + slow_size(plan[:cut]))
    return min(sizes)


def slow_table(plan):
    return tuple([
        tuple([slow_size(plan[begin:end]) for end in range(begin + 1, len(plan) + 1)]) for begin in range(len(plan))
    ])


def some_plans(seed, count, most):
    chance = random.Random(seed)
    found = []
    for _ in range(count):
        part = tuple([chance.choice((A, B, C)[:chance.randint(1, 3)]) for _ in range(chance.randint(1, 4))])
        plan = (part * chance.randint(1, 4) + tuple([chance.choice((A, B)) for _ in range(chance.randint(0, 3))]))
        found.append((plan * chance.randint(1, 2))[:most])
    return found


class PlanTest(WeaveTest):
    def test_plan_of(self):
        draft = ((0, 1, 2), ((0, 2), (2, 5), ()), ((0,), (0, 1), (2,), (), (1, 2)))
        self.assertEqual(plan_of(draft), ((0, 2), (0, 2, 5), (), (), (2, 5)))
        self.refuses(DraftError, "form", plan_of, None)
        self.refuses(DraftError, "tieup", plan_of, ((0,), ((1, 0),), ((),)))
        self.stands_any_values(plan_of, draft)

    def test_period(self):
        self.assertEqual(period((A,)), 1)
        self.assertEqual(period((A, A, A)), 1)
        self.assertEqual(period((A, B, A, B)), 2)
        self.assertEqual(period((A, B, A)), 3)
        self.assertEqual(period(PLAN), 5)
        self.assertEqual(period((A, B, B) * 8), 3)
        self.assertEqual(period((A,) * 23 + (B,)), 24)
        for plan in some_plans(111, 200, 24):
            fitting = [n for n in range(1, len(plan) + 1) if plan[:n] * (len(plan) // n) == plan]
            self.assertEqual(period(plan), min(fitting))

    def test_wrong_plans(self):
        functions = (
            period, shortest, chain_table, lambda plan: accept_chain_table(plan, None),
            lambda plan: joined(plan, None), lambda plan: joined((A,), plan),
        )
        for function in functions:
            for plan in NO_PLANS:
                self.refuses(ArgumentError, "plan", function, plan)
            self.stands_any_values(function, PLAN)
        self.assertEqual(period(((0, 15),) * 24), 1)


class JoinedTest(WeaveTest):
    def test_examples(self):
        self.assertEqual(joined((A, B), (C, (0, 2), (3,))), (
            (0,), (0, 1, 2, 3), (0, 3), (1, 3), (0, 2), (1, 3),
        ))
        self.assertEqual(joined((A,), (B,)), ((0, 1, 3),))

    def test_plans_that_repeat(self):
        self.assertEqual(joined((A, A), (B, B, B)), ((0, 1, 3),))
        self.assertEqual(joined((A, B, A, B), (C,) * 6), (A, B))
        self.assertEqual(joined((A, A, B), (A, C) * 2), joined((A, A, B), (A, C)))

    def test_some_plans(self):
        for first, second in zip(some_plans(112, 200, 24), some_plans(113, 200, 24)):
            picks = math.lcm(period(first), period(second))
            if picks > 24:
                self.refuses(TooMany, "picks", joined, first, second)
                continue
            expected = [
                tuple(sorted({*first[pick % len(first)], *second[pick % len(second)]})) for pick in range(picks)
            ]
            self.assertEqual(joined(first, second), tuple(expected))

    def test_size(self):
        counts = {}
        for first, second in itertools.product(range(1, 25), repeat=2):
            plans = [(B,) + (A,) * (count - 1) for count in (first, second)]
            picks = math.lcm(first, second)
            if picks <= 24:
                self.assertEqual(len(joined(*plans)), picks)
            else:
                self.refuses(TooMany, "picks", joined, *plans)
            counts[picks] = True
        self.assertLessEqual({24, 26, 28}, set(counts))


class ChainTest(WeaveTest):
    def test_unrolled(self):
        self.assertEqual(unrolled((A,)), (A,))
        self.assertEqual(unrolled((A, (3, (B, C)), A)), (A, B, C, B, C, B, C, A))
        self.assertEqual(unrolled(((2, ((2, (A,)), B)),)), (A, A, B, A, A, B))
        self.assertEqual(unrolled((C, (2, (C,)))), (C, C, C))
        # A pair of integers is a row of shafts.
        self.assertEqual(unrolled(((2, 5), (2, ((2, 5),)))), ((2, 5),) * 3)

    def test_sizes(self):
        self.assertEqual(size((A,)), 1)
        self.assertEqual(size((A, (3, (B, C)), A)), 5)
        self.assertEqual(size(((2, ((2, (A,)), B)),)), 4)
        self.assertEqual(size(((24, (A,)),)), 2)

    def test_picks(self):
        for function in (unrolled, size):
            self.refuses(TooMany, "picks", function, ((24, (A,)), A))
            self.refuses(TooMany, "picks", function, ((5, ((5, (A,)),)),))
            self.refuses(TooMany, "picks", function, (A,) * 25)
            self.refuses(TooMany, "picks", function, (A,) * 20000)
        self.assertEqual(unrolled((A, (23, (B,)))), (A,) + (B,) * 23)
        self.assertEqual(unrolled(((2, ((12, (C,)),)),)), (C,) * 24)
        self.assertEqual(unrolled((A,) * 24), (A,) * 24)

    def test_deep(self):
        self.assertEqual(len(unrolled(nested(4))), 15)
        for depth in (5, 8):
            self.refuses(TooMany, "picks", unrolled, nested(depth))
            self.refuses(TooMany, "picks", size, nested(depth))
        for depth in (9, 10, 40):
            self.refuses(ArgumentError, "chain", unrolled, nested(depth))
            self.refuses(ArgumentError, "chain", size, nested(depth))

    def test_wrong_chains(self):
        wrong = (
            None, 0, "", (), (None,), [A], ([0],), (0,), (2, (A,)), ((1, 0),), ((16,),), ((True,),), ((1, (A,)),),
            ((0, (A,)),), ((25, (A,)),), ((True, (A,)),), (("2", (A,)),), ((2, ()),), ((2, (0,)),), ((2, [A]),),
            ((2, (A,), A),), ((2, (A, None)),), ((2, None),), (A, (2, (A, (1, (A,))))), ((3, (A,)), (2,), 7),
            ((None, (A,)),), (((A,), 2),),
        )
        for chain in wrong:
            self.refuses(ArgumentError, "chain", unrolled, chain)
            self.refuses(ArgumentError, "chain", size, chain)
        self.refuses(ArgumentError, "chain", size, ((24, (A,)), A, None))
        self.stands_any_values(unrolled, (A, (3, (B, C)), A))
        self.stands_any_values(size, (A, (3, (B, C)), A))


class ShortestTest(WeaveTest):
    def test_examples(self):
        self.assertEqual(shortest((A, B) * 3), (3, ((3, (A, B)),)))
        self.assertEqual(shortest((A,)), (1, (A,)))
        self.assertEqual(shortest((A,) * 24), (2, ((24, (A,)),)))
        self.assertEqual(shortest((A, A, A, B, A, A, A, B))[0], 4)
        self.assertEqual(chain_table((A, A, A, B)), ((1, 2, 2, 3), (1, 2, 3), (1, 2), (1,)))

    def test_beside_all_ways_to_part(self):
        plans = [plan for count in range(1, 8) for plan in itertools.product((A, B), repeat=count)]
        for plan in plans + some_plans(114, 150, 16):
            least, chain = shortest(plan)
            self.assertEqual(least, slow_size(plan))
            self.assertEqual((size(chain), unrolled(chain), tuple(slow_rows(chain))), (least, plan, plan))
            table = chain_table(plan)
            self.assertEqual(table, slow_table(plan))
            self.assertIsNone(accept_chain_table(plan, table))

    def test_longest_plans(self):
        for plan in some_plans(115, 20, 24) + [(A, B, B, A, A, B) * 4, (A, A, B) * 7 + (A, B, C)]:
            least, chain = shortest(plan)
            self.assertEqual((size(chain), unrolled(chain)), (least, plan))
            self.assertEqual(chain_table(plan)[0][-1], least)


class AcceptTest(WeaveTest):
    def reason(self, plan, table):
        if type(table) is not tuple or len(table) != len(plan) or not all([type(row) is tuple for row in table]):
            return "form"
        if [len(row) for row in table] != list(range(len(plan), 0, -1)):
            return "form"
        if not all([type(part) is int for row in table for part in row]):
            return "form"
        return None if table == slow_table(plan) else "entry"

    def test_changed_tables(self):
        for plan in (PLAN, (A,), (A, A, B, A, A, B), (A, B) * 3):
            for table in [*variants(chain_table(plan)), *ODD_VALUES]:
                self.judges(self.reason(plan, table), accept_chain_table, plan, table)

    def test_any_values(self):
        self.stands_any_values(accept_chain_table, PLAN, chain_table(PLAN))
