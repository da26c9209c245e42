"""Points 85 to 87: steps."""

import itertools
import random

from hangstogether.errors import ArgumentError, DraftError
from hangstogether.steps import accept_step_table, fewest_steps, step_table, steps_of
from tests.helpers import ODD_VALUES, WeaveTest, variants

TIEUP = ((0,), (1,), (2,), ())


def draft_of(*treadling):
    return (0, 1, 2), TIEUP, treadling


DRAFT = draft_of((0, 2), (), (1,), (0, 1))


def slow_ways(pressed):
    """Return all ways to stand, by trying all feet, in their order."""
    if not pressed:
        return [(None, None)]
    if len(pressed) == 1:
        return [(pressed[0], None), (None, pressed[0])]
    return sorted(itertools.permutations(pressed))


def all_stands(draft):
    return list(itertools.product(*[slow_ways(pressed) for pressed in draft[2]]))


def slow_steps(ways, before=(None, None)):
    count = 0
    for way in ways:
        count += len([foot for foot in (0, 1) if way[foot] is not None and way[foot] != before[foot]])
        before = way
    return count


def slow_table(draft):
    table = []
    for pick, pressed in enumerate(draft[2]):
        rest = [slow_ways(further) for further in draft[2][pick + 1:]]
        table.append(tuple([
            min([slow_steps(ways, here) for ways in itertools.product(*rest)]) for here in slow_ways(pressed)
        ]))
    return tuple(table)


def some_drafts(seed, count, most):
    chance = random.Random(seed)
    every = [(), *itertools.combinations(range(4), 1), *itertools.combinations(range(4), 2)]
    return [draft_of(*[chance.choice(every) for _ in range(chance.randint(1, most))]) for _ in range(count)]


class StepsTest(WeaveTest):
    def test_examples(self):
        self.assertEqual(fewest_steps(draft_of(())), (0, ((None, None),)))
        self.assertEqual(fewest_steps(draft_of((1,), (1,), (1,)))[0], 1)
        self.assertEqual(fewest_steps(draft_of((1,), (), (1,)))[0], 2)
        self.assertEqual(fewest_steps(draft_of((0, 1), (0, 1), (1,)))[0], 2)
        # A foot that pressed nothing at the pick before must step again.
        self.assertEqual(fewest_steps(draft_of((0, 1), (1,), (0, 1)))[0], 3)
        self.assertEqual(fewest_steps(draft_of((0, 1), (1, 2), (0, 2)))[0], 4)

    def test_tables(self):
        self.assertEqual(step_table(draft_of((1,))), ((0, 0),))
        self.assertEqual(step_table(draft_of((1,), ())), ((0, 0), (0,)))
        self.assertEqual(step_table(draft_of((0, 1), (0,))), ((0, 0), (0, 0)))
        self.assertEqual(step_table(draft_of((2,), (0, 2), (0,))), ((1, 1), (0, 0), (0, 0)))
        self.assertEqual(step_table(draft_of((), (0,), (0, 3))), ((2,), (1, 1), (0, 0)))

    def test_beside_all_ways(self):
        for draft in some_drafts(101, 150, 6) + [DRAFT]:
            every = all_stands(draft)
            least, ways = fewest_steps(draft)
            self.assertEqual(least, min([slow_steps(ways) for ways in every]))
            self.assertIn(ways, every)
            self.assertEqual((steps_of(draft, ways), slow_steps(ways)), (least, least))
            self.assertEqual(step_table(draft), slow_table(draft))
            self.assertIsNone(accept_step_table(draft, step_table(draft)))
            for ways in every:
                self.assertEqual(steps_of(draft, ways), slow_steps(ways))

    def test_longest(self):
        draft = draft_of(*[(0,), (1, 2), (), (0, 3)] * 6)
        least, ways = fewest_steps(draft)
        self.assertEqual((len(ways), steps_of(draft, ways)), (24, least))

    def test_feet(self):
        functions = (
            fewest_steps, step_table, lambda draft: steps_of(draft, None), lambda draft: accept_step_table(draft, None),
        )
        for function in functions:
            for draft in (draft_of((0, 1, 2)), draft_of((0,), (0, 1), (0, 1, 2, 3)), draft_of((1, 2, 3), ())):
                self.refuses(ArgumentError, "feet", function, draft)
            self.refuses(DraftError, "form", function, None)
            self.refuses(DraftError, "treadling", function, draft_of((0, 1, 2), (2, 1)))
            self.stands_any_values(function, DRAFT)


class WaysTest(WeaveTest):
    def test_wrong_ways(self):
        right = ((2, 0), (None, None), (1, None), (0, 1))
        self.assertEqual(steps_of(DRAFT, right), 5)
        names = [repr(ways) for ways in all_stands(DRAFT)]
        for ways in [*variants(right), *ODD_VALUES]:
            if repr(ways) in names:
                self.assertEqual(steps_of(DRAFT, ways), slow_steps(ways))
            else:
                self.refuses(ArgumentError, "ways", steps_of, DRAFT, ways)

    def test_wrong_feet(self):
        for pressed, way in (((), (0, None)), ((1,), (None, None)), ((1,), (1, 1)), ((1,), (True, None)), ((0, 1), (0, 0))):
            self.refuses(ArgumentError, "ways", steps_of, draft_of(pressed), (way,))
        self.refuses(ArgumentError, "ways", steps_of, draft_of((0, 1)), ((False, True),))
        self.refuses(ArgumentError, "ways", steps_of, draft_of((0, 1)), ((0, None),))
        self.refuses(ArgumentError, "ways", steps_of, draft_of((1,), (1,)), ((1, None),))
        self.refuses(ArgumentError, "ways", steps_of, draft_of((1,)), ((1, None), (1, None)))
        self.stands_any_values(steps_of, DRAFT, ((2, 0), (None, None), (1, None), (0, 1)))


class AcceptTest(WeaveTest):
    def reason(self, draft, table):
        sizes = [len(slow_ways(pressed)) for pressed in draft[2]]
        if type(table) is not tuple or len(table) != len(sizes) or not all([type(row) is tuple for row in table]):
            return "form"
        if [len(row) for row in table] != sizes or not all([type(part) is int for row in table for part in row]):
            return "form"
        return None if table == slow_table(draft) else "entry"

    def test_changed_tables(self):
        for draft in (DRAFT, draft_of(()), draft_of((1,), (0, 1), (0,)), draft_of((0, 1), (1, 2), (0, 2))):
            for table in [*variants(step_table(draft)), *ODD_VALUES]:
                self.judges(self.reason(draft, table), accept_step_table, draft, table)

    def test_any_values(self):
        self.stands_any_values(accept_step_table, DRAFT, step_table(DRAFT))
