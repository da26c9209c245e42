"""Points 138 to 140: threadings told by runs."""

import itertools
import random

from hangstogether.draws import accept_run_table, fewest_runs, run_table, threaded
from hangstogether.errors import ArgumentError
from tests.helpers import ODD_VALUES, WeaveTest, variants

THREADING = (0, 1, 2, 3, 2, 1, 0, 0)
STEPS = {"up": 1, "down": -1, "same": 0}


def slow_threaded(runs, shafts):
    told = []
    for shaft, word, count in runs:
        for _ in range(count):
            told.append(shaft)
            shaft += STEPS[word]
            if shaft == shafts:
                shaft = 0
            if shaft < 0:
                shaft = shafts - 1
    return tuple(told)


def is_run(part, shafts):
    return any([slow_threaded(((part[0], word, len(part)),), shafts) == part for word in STEPS])


def slow_table(threading, shafts):
    """Return the fewest runs from each end on, by trying all partings."""
    told = []
    for first in range(len(threading) + 1):
        rest = threading[first:]
        found = [0] if not rest else []
        for cuts in itertools.product((0, 1), repeat=max(len(rest) - 1, 0)):
            places = [0, *[place + 1 for place, cut in enumerate(cuts) if cut], len(rest)]
            parts = [rest[begin:end] for begin, end in zip(places, places[1:])]
            if rest and all([is_run(part, shafts) for part in parts]):
                found.append(len(parts))
        told.append(min(found))
    return tuple(told)


def some_threadings(seed, count, most):
    chance = random.Random(seed)
    found = []
    for _ in range(count):
        shafts = chance.randint(1, 5)
        threading = ()
        while len(threading) < most:
            run = (chance.randrange(shafts), chance.choice(tuple(STEPS)), chance.randint(1, 6))
            threading += slow_threaded((run,), shafts)
        found.append((threading[:chance.randint(1, most)], shafts))
    return found


class ThreadedTest(WeaveTest):
    def test_examples(self):
        self.assertEqual(threaded(((0, "up", 4), (2, "down", 3), (0, "up", 1)), 4), THREADING)
        self.assertEqual(threaded(((2, "up", 5),), 4), (2, 3, 0, 1, 2))
        self.assertEqual(threaded(((1, "down", 5),), 4), (1, 0, 3, 2, 1))
        self.assertEqual(threaded(((1, "same", 3), (3, "same", 1)), 4), (1, 1, 1, 3))
        self.assertEqual(threaded(((0, "down", 24),), 16), tuple([-end % 16 for end in range(24)]))

    def test_one_and_two_shafts(self):
        for word in STEPS:
            self.assertEqual(threaded(((0, word, 4),), 1), (0,) * 4)
        self.assertEqual(threaded(((1, "up", 4),), 2), (1, 0, 1, 0))
        self.assertEqual(threaded(((1, "down", 4),), 2), (1, 0, 1, 0))
        self.assertEqual(threaded(((1, "same", 4),), 2), (1, 1, 1, 1))

    def test_some_runs(self):
        chance = random.Random(251)
        for _ in range(200):
            shafts = chance.randint(1, 16)
            runs = tuple([
                (chance.randrange(shafts), chance.choice(tuple(STEPS)), chance.randint(1, 24))
                for _ in range(chance.randint(1, 4))
            ])
            if sum([run[2] for run in runs]) <= 24:
                self.assertEqual(threaded(runs, shafts), slow_threaded(runs, shafts))
            else:
                self.refuses(ArgumentError, "runs", threaded, runs, shafts)

    def test_wrong_arguments(self):
        for shafts in (0, 17, -1, True, None, "4", (4,), 10 ** 30):
            self.refuses(ArgumentError, "shafts", threaded, None, shafts)
            self.refuses(ArgumentError, "shafts", threaded, ((0, "up", 1),), shafts)
        wrong = [None, 0, "up", (), [(0, "up", 1)], (0, "up", 1), (None,), ((),), ((0, "up"),), ((0, "up", 1, 1),)]
        wrong += [(["0", "up", 1],), ((0, "up", 24), (0, "up", 1)), ((0, "same", 1),) * 25, ((0, "up", 1), None)]
        wrong += [((shaft, "up", 1),) for shaft in (4, -1, True, None, "0", (0,))]
        wrong += [((0, word, 1),) for word in ("Up", "", "left", None, 0, ("up",), 1)]
        for count in (0, 25, -1, True, None, "1", (1,), 10 ** 30):
            wrong += [((0, "up", count),), ((0, "up", 2), (0, "up", count))]
        for runs in wrong:
            self.refuses(ArgumentError, "runs", threaded, runs, 4)
        self.assertEqual(len(threaded(((0, "same", 1),) * 24, 4)), 24)
        self.assertEqual(len(threaded(((0, "up", 23), (0, "up", 1)), 4)), 24)
        self.stands_any_values(threaded, ((0, "up", 4),), 4)


class RunsTest(WeaveTest):
    def test_examples(self):
        self.assertEqual(fewest_runs(THREADING, 4), ((0, "up", 4), (2, "down", 3), (0, "up", 1)))
        self.assertEqual(run_table(THREADING, 4), (3, 3, 3, 2, 2, 2, 1, 1, 0))
        self.assertEqual(run_table((0,), 1), (1, 0))

    def test_round_the_last_shaft(self):
        self.assertEqual(fewest_runs((2, 3, 0, 1), 4), ((2, "up", 4),))
        self.assertEqual(fewest_runs((1, 0, 3, 2), 4), ((1, "down", 4),))
        self.assertEqual(fewest_runs((2, 3, 0, 1), 5), ((2, "up", 2), (0, "up", 2)))

    def test_equally_long_ones(self):
        self.assertEqual(fewest_runs((0,) * 5, 1), ((0, "up", 5),))
        self.assertEqual(fewest_runs((0, 1, 0, 1, 1), 2), ((0, "up", 4), (1, "up", 1)))
        self.assertEqual(fewest_runs((1, 1, 0), 2), ((1, "same", 2), (0, "up", 1)))
        self.assertEqual(fewest_runs((3, 3, 1), 4), ((3, "same", 2), (1, "up", 1)))
        self.assertEqual(fewest_runs((3, 1), 4), ((3, "up", 1), (1, "up", 1)))

    def test_beside_all_partings(self):
        for threading, shafts in some_threadings(252, 120, 9):
            table = run_table(threading, shafts)
            self.assertEqual(table, slow_table(threading, shafts))
            self.assertEqual(len(fewest_runs(threading, shafts)), table[0])

    def test_as_long_as_can_be(self):
        for threading, shafts in some_threadings(253, 200, 24):
            runs = fewest_runs(threading, shafts)
            self.assertEqual(threaded(runs, shafts), threading)
            self.assertEqual(len(runs), run_table(threading, shafts)[0])
            self.assertIsNone(accept_run_table(threading, shafts, run_table(threading, shafts)))
            first = 0
            for shaft, word, count in runs:
                longer = threading[first:first + count + 1]
                self.assertTrue(len(longer) == count or not is_run(longer, shafts))
                part = threading[first:first + count]
                fitting = [other for other in STEPS if slow_threaded(((part[0], other, count),), shafts) == part]
                self.assertEqual((shaft, word), (part[0], fitting[0]))
                first += count

    def test_wrong_arguments(self):
        functions = (fewest_runs, run_table, lambda threading, shafts: accept_run_table(threading, shafts, None))
        wrong = [None, 0, "0", (), [0], ((0,),), (0, 4), (0, -1), (0, True), (0, None), (0, "1"), (0,) * 25, (10 ** 30,)]
        for function in functions:
            for shafts in (0, 17, -1, True, None, "4", (4,), 10 ** 30):
                self.refuses(ArgumentError, "shafts", function, None, shafts)
                self.refuses(ArgumentError, "shafts", function, THREADING, shafts)
            for threading in wrong:
                self.refuses(ArgumentError, "threading", function, threading, 4)
            self.stands_any_values(function, THREADING, 4)
        self.assertEqual(fewest_runs((15,) * 24, 16), ((15, "same", 24),))


class AcceptTest(WeaveTest):
    def reason(self, threading, shafts, table):
        if type(table) is not tuple or len(table) != len(threading) + 1 or {type(part) for part in table} != {int}:
            return "form"
        return None if table == slow_table(threading, shafts) else "entry"

    def test_changed_tables(self):
        for threading, shafts in ((THREADING, 4), ((0,), 1), ((0, 1, 0), 2), ((2, 0), 16)):
            right = run_table(threading, shafts)
            for table in [right, *variants(right), *ODD_VALUES]:
                self.judges(self.reason(threading, shafts, table), accept_run_table, threading, shafts, table)

    def test_other_tables(self):
        self.judges("entry", accept_run_table, THREADING, 5, (3, 3, 3, 2, 2, 2, 1, 1, 1))
        self.judges("form", accept_run_table, THREADING, 4, (3, 3, 3, 2, 2, 2, 1, 1))
        self.judges("form", accept_run_table, THREADING, 4, (3, 3, 3, 2, 2, 2, 1, True, 0))
        self.stands_any_values(accept_run_table, THREADING, 4, run_table(THREADING, 4))
