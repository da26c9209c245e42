"""Points 70 to 74: faults."""

import itertools
import random

from hangstogether.drafts import woven
from hangstogether.errors import ArgumentError, ClothError, DraftError, TooMany
from hangstogether.faults import accept_faults, faults
from tests.helpers import WeaveTest, answer_or_error, variants

DRAFT = ((0, 1, 0), ((0,), (1,)), ((0,), (1,), (0,)))
CLOTH = ((1, 0, 0), (0, 1, 1), (1, 0, 0))
# So many choices are looked at for three changes, which are not enough.
EDGES = {
    400: (
        ((2, 7, 2, 3, 1), ((0, 1, 2, 7), (1, 4, 5, 7)), ((0, 1), (1,), (), (0,), (0, 1))),
        ((1,) * 5, (0,) * 5, (0,) * 5, (1, 0, 1, 1, 1), (1, 0, 1, 1, 1)),
    ),
    401: (
        ((5, 0, 1, 5, 7, 1), ((1, 2, 4, 6), (0, 1, 2, 3, 4, 5)), ((0, 1), (0,), (0,), (0, 1), (0,))),
        ((1,) * 6, (1,) * 6, (1, 1, 1, 0, 0, 1), (1,) * 6, (1, 1, 1, 0, 0, 1)),
    ),
}


class Slow:
    """What points 70 to 73 say, word by word."""

    def __init__(self, draft, cloth):
        self.draft = draft
        self.cloth = cloth
        self.looked_at = 0

    def all_changes(self, kind, number):
        threading, tieup, treadling = self.draft
        if kind == "end":
            shafts = {*threading, *[shaft for shafts in tieup for shaft in shafts]}
            return [("end", number, shaft) for shaft in sorted(shafts) if shaft != threading[number]]
        return [("pick", number, row) for row in sorted(set(treadling)) if row != treadling[number]]

    def threads(self):
        ends = [("end", end) for end in range(len(self.draft[0]))]
        return ends + [("pick", pick) for pick in range(len(self.draft[2]))]

    def wrong(self, changes):
        threading, tieup, treadling = self.draft
        threading, treadling = list(threading), list(treadling)
        for kind, number, other in changes:
            (threading if kind == "end" else treadling)[number] = other
        rows = woven((tuple(threading), tieup, tuple(treadling)))
        return [
            (pick, end) for pick in range(len(rows)) for end in range(len(rows[0]))
            if rows[pick][end] != self.cloth[pick][end]
        ]

    def choices(self, changes):
        pick, end = self.wrong(changes)[0]
        threads = [thread for thread in (("end", end), ("pick", pick)) if thread not in [c[:2] for c in changes]]
        return [change for thread in threads for change in self.all_changes(*thread)]

    def paper(self, number, changes=()):
        if number == 0:
            return ()
        return tuple([self.paper(number - 1, (*changes, change)) for change in self.choices(changes)])

    def search(self, number, changes=()):
        """Return the first changes that leave nothing wrong, or None."""
        self.looked_at += 1
        if not self.wrong(changes):
            return changes
        if len(changes) < number:
            for change in self.choices(changes):
                found = self.search(number, (*changes, change))
                if found is not None:
                    return found
        return None

    def answer(self, most):
        """Return the number of the fewest changes or None, the paper, and the most that was looked at."""
        looked_at = 0
        for number in range(most + 1):
            self.looked_at = 0
            found = self.search(number)
            looked_at = max(looked_at, self.looked_at)
            if found is not None:
                return number, self.paper(number - 1) if number else None, looked_at
        return None, self.paper(most), looked_at

    def are_changes(self, value, most):
        if type(value) is not tuple or len(value) > most:
            return False
        right = {repr(change): thread for thread in self.threads() for change in self.all_changes(*thread)}
        if not all([repr(change) in right for change in value]):
            return False
        places = [self.threads().index(right[repr(change)]) for change in value]
        return places == sorted(set(places))

    def fewest_of_all(self, most):
        """Return the fewest changes by trying all sets of them."""
        for number in range(most + 1):
            for threads in itertools.combinations(self.threads(), number):
                for changes in itertools.product(*[self.all_changes(*thread) for thread in threads]):
                    if not self.wrong(changes):
                        return number
        return None


def some_draft(chance, ends, shafts, treadles, picks):
    threading = tuple([chance.randrange(shafts) for _ in range(ends)])
    tieup = tuple([tuple([s for s in range(shafts) if chance.randrange(2)]) for _ in range(treadles)])
    treadling = tuple([tuple([t for t in range(treadles) if chance.randrange(2)]) for _ in range(picks)])
    return threading, tieup, treadling


def spoilt(chance, draft, count):
    """Return the cloth of a draft with some things done in another way."""
    slow = Slow(draft, woven(draft))
    threading, tieup, treadling = draft
    threading, treadling = list(threading), list(treadling)
    for kind, number in chance.sample(slow.threads(), min(count, len(slow.threads()))):
        changes = slow.all_changes(kind, number)
        if changes:
            (threading if kind == "end" else treadling)[number] = chance.choice(changes)[2]
    return woven((tuple(threading), tieup, tuple(treadling)))


class FaultsTest(WeaveTest):
    def test_example(self):
        self.assertEqual(faults(DRAFT, CLOTH, 1), ("found", (("end", 2, 1),), ()))
        self.assertEqual(faults(DRAFT, CLOTH, 0), ("none", ()))

    def test_nothing_wrong(self):
        for most in range(4):
            self.assertEqual(faults(DRAFT, woven(DRAFT), most), ("found", (), None))

    def test_none_are_enough(self):
        cloth = ((1, 1, 1), (0, 1, 0), (0, 0, 0))
        told = faults(DRAFT, cloth, 2)
        self.assertEqual(told, ("none", Slow(DRAFT, cloth).paper(2)))
        # Nothing else may have been done: one shaft and one row of treadles.
        bare = ((0,), ((0,),), ((0,),))
        self.assertEqual([faults(bare, ((0,),), most) for most in range(4)], [("none", ())] * 4)

    def test_choices_are_without_changed_threads(self):
        draft = ((0,), ((0,), (1,)), ((0,), (1,)))
        cloth = ((0,), (0,))
        self.assertEqual(faults(draft, cloth, 2), ("found", (("pick", 0, (1,)),), ()))
        self.assertEqual(faults(draft, ((0,), (1,)), 2)[1:], ((("end", 0, 1),), ()))

    def test_order_of_changes(self):
        draft = ((0, 1, 0, 1), ((0,), (1,)), ((0,), (1,), (0,), (1,)))
        cloth = ((0, 1, 0, 0), (0, 1, 0, 0), (1, 0, 1, 1), (0, 1, 0, 0))
        word, changes, paper = faults(draft, cloth, 3)
        self.assertEqual((word, changes), ("found", (("end", 3, 0), ("pick", 0, (1,)))))
        self.assertEqual(paper, Slow(draft, cloth).paper(1))

    def test_beside_trying_all(self):
        chance = random.Random(71)
        for _ in range(150):
            sizes = [chance.randint(1, 3) for _ in range(4)]
            draft = some_draft(chance, *sizes)
            cloth = spoilt(chance, draft, chance.randint(0, 4))
            slow = Slow(draft, cloth)
            most = chance.randint(0, 3)
            told = faults(draft, cloth, most)
            number, paper, _ = slow.answer(most)
            self.assertEqual(number, slow.fewest_of_all(most))
            if number is None:
                self.assertEqual(told, ("none", paper))
            else:
                self.assertEqual((told[0], len(told[1]), told[2]), ("found", number, paper))
                self.assertTrue(slow.are_changes(told[1], most))
                self.assertEqual(slow.wrong(told[1]), [])
            self.assertIsNone(accept_faults(draft, cloth, most, told))

    def test_larger_drafts(self):
        chance = random.Random(72)
        counts = {}
        for _ in range(60):
            draft = some_draft(chance, chance.randint(3, 12), chance.randint(2, 10), chance.randint(2, 8), 10)
            cloth = spoilt(chance, draft, chance.randint(0, 7))
            most = chance.choice((1, 2, 3, 3))
            number, paper, looked_at = Slow(draft, cloth).answer(most)
            told = answer_or_error(faults, draft, cloth, most)
            if looked_at > 400:
                self.assertEqual(told, (TooMany, "choices"))
            else:
                self.assertEqual(told[-1], paper)
                self.assertEqual(len(told[1]) if told[0] == "found" else None, number)
                self.assertIsNone(accept_faults(draft, cloth, most, told))
            counts[told[0]] = counts.get(told[0], 0) + 1
        self.assertEqual(len(counts), 3)

    def test_wrong_arguments(self):
        for function in (faults, lambda draft, cloth, most: accept_faults(draft, cloth, most, None)):
            self.refuses(DraftError, "form", function, None, None, None)
            self.refuses(DraftError, "threading", function, ((), (), ()), None, None)
            self.refuses(ClothError, "form", function, DRAFT, None, None)
            self.refuses(ClothError, "crossing", function, DRAFT, ((True,),), None)
            for cloth in (CLOTH[:2], (*CLOTH, CLOTH[0]), ((1, 0),) * 3, ((1, 0, 0, 0),) * 3):
                self.refuses(ArgumentError, "cloth", function, DRAFT, cloth, None)
            for most in (-1, 4, True, None, "1", (1,), 10 ** 30):
                self.refuses(ArgumentError, "most", function, DRAFT, CLOTH, most)
            self.stands_any_values(function, DRAFT, CLOTH, 1)


class TooManyTest(WeaveTest):
    def test_at_the_edge(self):
        for count, (draft, cloth) in EDGES.items():
            slow = Slow(draft, cloth)
            number, paper, looked_at = slow.answer(3)
            self.assertEqual(looked_at, count)
            if count > 400:
                self.refuses(TooMany, "choices", faults, draft, cloth, 3)
            else:
                self.assertEqual(faults(draft, cloth, 3)[-1], paper)

    def test_accept_never_raises_it(self):
        draft, cloth = EDGES[401]
        slow = Slow(draft, cloth)
        number, paper, _ = slow.answer(3)
        told = ("none", paper) if number is None else ("found", tuple(sorted(slow.search(3))), paper)
        self.assertIsNone(accept_faults(draft, cloth, 3, told))
        self.judges("paper", accept_faults, draft, cloth, 3, ("none", ()))


class AcceptTest(WeaveTest):
    def reason(self, draft, cloth, most, told):
        slow = Slow(draft, cloth)
        if not isinstance(told, tuple) or not told or (len(told), told[0]) not in ((3, "found"), (2, "none")):
            return "form"
        number, paper, _ = slow.answer(most)
        if told[0] == "none":
            return None if number is None and repr(told[1]) == repr(paper) else "paper"
        if not slow.are_changes(told[1], most) or slow.wrong(told[1]):
            return "changes"
        return None if len(told[1]) == number and repr(told[2]) == repr(paper) else "paper"

    def test_changed_answers(self):
        cases = [(DRAFT, CLOTH, most) for most in range(3)] + [(DRAFT, woven(DRAFT), 1)]
        cases.append((DRAFT, ((1, 1, 1), (0, 1, 0), (0, 0, 0)), 2))
        chance = random.Random(73)
        for _ in range(12):
            draft = some_draft(chance, 3, 3, 2, 3)
            cases.append((draft, spoilt(chance, draft, chance.randint(1, 3)), chance.randint(0, 3)))
        for draft, cloth, most in cases:
            told = faults(draft, cloth, most)
            for other in variants(told):
                self.judges(self.reason(draft, cloth, most, other), accept_faults, draft, cloth, most, other)

    def test_any_fewest_changes(self):
        draft = ((0, 1, 0), ((0,), (1,), (2,)), ((0,), (1,), (2,)))
        cloth = ((1, 0, 1), (1, 0, 1), (0, 0, 0))
        slow = Slow(draft, cloth)
        singles = [change for thread in slow.threads() for change in slow.all_changes(*thread)]
        every = [*itertools.combinations(singles, 1), *itertools.combinations(singles, 2), *zip(singles, singles[1:])]
        right = 0
        for changes in every:
            for order in {changes, changes[::-1]}:
                for paper in ((), None, slow.paper(1)):
                    told = ("found", order, paper)
                    reason = self.reason(draft, cloth, 2, told)
                    right += reason is None
                    self.judges(reason, accept_faults, draft, cloth, 2, told)
        self.assertGreater(right, 0)

    def test_one_thread_twice(self):
        draft = ((0, 1, 0), ((0,), (1,), (2,)), ((0,), (1,), (2,)))
        cloth = ((1, 0, 1), (0, 0, 0), (0, 0, 0))
        self.assertIsNone(accept_faults(draft, cloth, 2, ("found", (("pick", 1, (2,)),), ())))
        twice = (("pick", 1, (0,)), ("pick", 1, (2,)))
        for changes in (twice, twice[::-1], twice[1:] * 2):
            self.judges("changes", accept_faults, draft, cloth, 2, ("found", changes, ()))

    def test_more_than_most(self):
        self.judges("changes", accept_faults, DRAFT, CLOTH, 0, ("found", (("end", 2, 1),), ()))
        self.judges("changes", accept_faults, DRAFT, CLOTH, 3, ("found", (), None))
        self.judges("paper", accept_faults, DRAFT, woven(DRAFT), 3, ("found", (), ()))
        self.judges("paper", accept_faults, DRAFT, woven(DRAFT), 0, ("none", ()))
        self.judges("form", accept_faults, DRAFT, CLOTH, 1, ("found", (("end", 2, 1),)))

    def test_any_values(self):
        self.stands_any_values(accept_faults, DRAFT, CLOTH, 1, faults(DRAFT, CLOTH, 1))
        self.stands_any_values(accept_faults, DRAFT, CLOTH, 0, ("none", ()))
