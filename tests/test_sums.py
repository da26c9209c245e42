"""Points 94 to 98: sums and switches."""

import itertools
import random

from hangstogether.errors import ArgumentError, ClothError, PaperError
from hangstogether.layers import falls_by_sums, hangs_together
from hangstogether.sums import accept_sums, sums_of, switched, switches_between, with_sums
from tests.helpers import ODD_VALUES, WeaveTest, all_cloths, answer_or_error, some_cloths, variants

PLAIN = ((1, 0), (0, 1))
OTHER = ((0, 1), (1, 0))
CLOTH = ((1, 0, 1), (0, 1, 1), (1, 1, 0))


def slow_sums(cloth):
    return tuple(map(sum, zip(*cloth))), tuple(map(sum, cloth))


def bars(ends, picks, many):
    greatest = max([sum(some) for some in itertools.combinations(picks, many)])
    return greatest > sum([min(part, many) for part in ends])


def slow_build(ends, picks):
    """Build a cloth as point 95 tells, one crossing after the other."""
    needed = list(ends)
    cloth = [[0] * len(ends) for _ in picks]
    left = list(range(len(picks)))
    while left:
        pick = max(left, key=lambda pick: (picks[pick], -pick))
        left.remove(pick)
        given = []
        for _ in range(picks[pick]):
            end = max([end for end in range(len(ends)) if end not in given], key=lambda end: (needed[end], -end))
            given.append(end)
        for end in given:
            needed[end] -= 1
            cloth[pick][end] = 1
    return tuple(map(tuple, cloth))


def by_sums(picks, ends):
    """Return all cloths of a size by their sums."""
    found = {}
    for cloth in all_cloths(picks, ends):
        found.setdefault(slow_sums(cloth), []).append(cloth)
    return found


def is_switch(cloth, value):
    if type(value) is not tuple or [type(part) for part in value] != [int] * 4:
        return False
    pick, other, end, last = value
    if not 0 <= pick < other < len(cloth) or not 0 <= end < last < len(cloth[0]):
        return False
    corners = ((cloth[pick][end], cloth[pick][last]), (cloth[other][end], cloth[other][last]))
    return corners in (PLAIN, OTHER)


def behind(cloth, switch):
    pick, other, end, last = switch
    rows = [list(row) for row in cloth]
    for row, column in itertools.product((pick, other), (end, last)):
        rows[row][column] = 1 - rows[row][column]
    return tuple(map(tuple, rows))


def shuffled(chance, cloth, count):
    """Return a cloth behind some switches, and these."""
    every = [
        (pick, other, end, last)
        for pick, other in itertools.combinations(range(len(cloth)), 2)
        for end, last in itertools.combinations(range(len(cloth[0])), 2)
    ]
    done = []
    for _ in range(count):
        switches = [switch for switch in every if is_switch(cloth, switch)]
        if switches:
            done.append(chance.choice(switches))
            cloth = behind(cloth, done[-1])
    return cloth, tuple(done)


class SumsTest(WeaveTest):
    def test_examples(self):
        self.assertEqual(sums_of(CLOTH), ((2, 2, 2), (2, 2, 2)))
        self.assertEqual(sums_of(((1, 1, 0), (0, 1, 0))), ((1, 2, 0), (2, 1)))
        self.assertEqual(sums_of(((1,) * 24,) * 24), ((24,) * 24, (24,) * 24))
        self.refuses(ClothError, "form", sums_of, None)
        self.stands_any_values(sums_of, CLOTH)

    def test_some_cloths(self):
        for cloth in some_cloths(121, 200, 8):
            self.assertEqual(sums_of(cloth), slow_sums(cloth))


class WithSumsTest(WeaveTest):
    def test_examples(self):
        self.assertEqual(with_sums((1, 1), (1, 1)), ("cloth", PLAIN))
        self.assertEqual(with_sums((2, 0, 0), (2, 0)), ("barred", 1))
        self.assertEqual(with_sums((1, 1), (1, 0)), ("unequal", 1))
        self.assertEqual(with_sums((0,), (1,)), ("unequal", -1))
        self.assertEqual(with_sums((0, 0), (0,)), ("cloth", ((0, 0),)))
        self.assertEqual(with_sums((3, 3, 0, 0), (2, 2, 2)), ("cloth", ((1, 1, 0, 0),) * 3))
        # The first pick can be had, but not the first two together.
        self.assertEqual(with_sums((3, 1, 1, 1), (3, 3, 0)), ("barred", 2))

    def test_built_cloth(self):
        self.assertEqual(with_sums((1, 2, 2, 1), (1, 3, 2)), ("cloth", ((0, 0, 0, 1), (1, 1, 1, 0), (0, 1, 1, 0))))
        self.assertEqual(with_sums((1, 1, 1), (1, 1, 1))[1], ((1, 0, 0), (0, 1, 0), (0, 0, 1)))

    def test_all_sums(self):
        for picks, ends in ((1, 1), (1, 3), (2, 2), (3, 2), (2, 3), (3, 3)):
            cloths = by_sums(picks, ends)
            for sums in itertools.product(
                itertools.product(range(picks + 1), repeat=ends), itertools.product(range(ends + 1), repeat=picks)
            ):
                told = with_sums(*sums)
                barring = [many for many in range(1, picks + 1) if bars(*sums, many)]
                if sum(sums[0]) != sum(sums[1]):
                    self.assertEqual(told, ("unequal", sum(sums[0]) - sum(sums[1])))
                elif barring:
                    self.assertEqual(told, ("barred", barring[0]))
                else:
                    self.assertEqual(told, ("cloth", slow_build(*sums)))
                    self.assertIn(told[1], cloths[sums])
                self.assertEqual(told[0] == "cloth", sums in cloths)
                self.assertIsNone(accept_sums(*sums, told))

    def test_sums_of_cloths(self):
        for cloth in some_cloths(122, 200, 24):
            self.assertEqual(with_sums(*slow_sums(cloth)), ("cloth", slow_build(*slow_sums(cloth))))
            self.assertEqual(sums_of(slow_build(*slow_sums(cloth))), slow_sums(cloth))

    def test_wrong_sums(self):
        functions = (with_sums, lambda ends, picks: accept_sums(ends, picks, None))
        for function in functions:
            for value in (None, 0, "", (), [1, 1], (0,) * 25):
                self.refuses(ArgumentError, "ends", function, value, None)
                self.refuses(ArgumentError, "picks", function, (9, 9), value)
            for part in (-1, 3, True, None, "1", (1,), 10 ** 30):
                self.refuses(ArgumentError, "ends", function, (1, 1, part), (9, 9))
                self.refuses(ArgumentError, "picks", function, (1, 1), (part, 1, 1))
            self.stands_any_values(function, (1, 1), (1, 1))
        self.assertEqual(with_sums((24,) * 24, (24,) * 24)[0], "cloth")
        self.assertEqual(with_sums((3, 3), (2, 2, 2))[0], "cloth")


class AcceptTest(WeaveTest):
    def reason(self, ends, picks, told):
        """Return the class and the reason of the error, or None."""
        if type(told) is not tuple or len(told) != 2 or told[0] not in ("cloth", "unequal", "barred"):
            return PaperError, "form"
        word, part = told
        if word == "cloth":
            wrong = answer_or_error(sums_of, part)
            if wrong[0] is ClothError:
                return wrong
            return None if slow_sums(part) == (ends, picks) else (PaperError, "sums")
        if type(part) is not int:
            return PaperError, "form"
        if word == "unequal":
            return None if part == sum(ends) - sum(picks) != 0 else (PaperError, "sums")
        return None if 1 <= part <= len(picks) and bars(ends, picks, part) else (PaperError, "sums")

    def check(self, ends, picks, told):
        wrong = self.reason(ends, picks, told)
        if wrong is None:
            self.assertIsNone(accept_sums(ends, picks, told))
        else:
            self.refuses(*wrong, accept_sums, ends, picks, told)

    def test_changed_answers(self):
        cases = (
            ((1, 1), (1, 1)), ((2, 0, 0), (2, 0)), ((1, 1), (1, 0)), ((0, 0), (1, 1)), ((0,), (0,)),
            ((3, 1, 1, 1), (3, 3, 0)), ((1, 2, 2, 1), (1, 3, 2)),
        )
        for ends, picks in cases:
            answer = with_sums(ends, picks)
            told = [*variants(answer), *ODD_VALUES]
            told += [(word, answer[1]) for word in ("cloth", "unequal", "barred")]
            told += [(word, number) for word in ("cloth", "unequal", "barred") for number in range(-3, 6)]
            told += [("cloth", value) for value in ODD_VALUES]
            for other in told:
                self.check(ends, picks, other)

    def test_any_cloth(self):
        for sums in (((1, 1), (1, 1)), ((2, 1, 1), (1, 2, 1)), ((1, 1, 1), (1, 2)), ((0, 2), (1, 1))):
            for cloth in all_cloths(2, 2) + all_cloths(3, 3) + all_cloths(2, 3):
                self.check(*sums, ("cloth", cloth))

    def test_any_number_that_bars(self):
        ends, picks = (0, 0, 0, 3), (3, 0, 0)
        self.assertEqual(with_sums(ends, picks), ("barred", 1))
        for many in range(-1, 6):
            self.check(ends, picks, ("barred", many))
        self.assertIsNone(accept_sums(ends, picks, ("barred", 2)))
        self.judges("sums", accept_sums, ends, picks, ("barred", 3))

    def test_no_difference(self):
        self.judges("sums", accept_sums, (1, 1), (1, 1), ("unequal", 0))
        self.judges("sums", accept_sums, (1, 1), (1, 0), ("unequal", -1))
        self.judges("form", accept_sums, (1, 1), (1, 0), ("unequal", True))
        self.judges("form", accept_sums, (2, 0, 0), (2, 0), ("barred", True))
        self.stands_any_values(accept_sums, (1, 1), (1, 1), ("cloth", PLAIN))


class SwitchedTest(WeaveTest):
    def test_examples(self):
        self.assertEqual(switched(PLAIN, ()), PLAIN)
        self.assertEqual(switched(PLAIN, ((0, 1, 0, 1),)), OTHER)
        self.assertEqual(switched(PLAIN, ((0, 1, 0, 1),) * 2), PLAIN)
        self.assertEqual(switched(CLOTH, ((0, 1, 0, 1),)), ((0, 1, 1), (1, 0, 1), (1, 1, 0)))

    def test_all_switches(self):
        for cloth in some_cloths(123, 60, 4) + [CLOTH]:
            for switch in itertools.product(range(-1, 5), repeat=4):
                if is_switch(cloth, switch):
                    self.assertEqual(switched(cloth, (switch,)), behind(cloth, switch))
                    self.assertEqual(sums_of(behind(cloth, switch)), sums_of(cloth))
                else:
                    self.refuses(ArgumentError, "switches", switched, cloth, (switch,))

    def test_step_by_step(self):
        chance = random.Random(124)
        for cloth in some_cloths(125, 60, 6):
            goal, switches = shuffled(chance, cloth, 5)
            self.assertEqual(switched(cloth, switches), goal)
            for place in range(len(switches)):
                # What is no switch any longer when its turn comes.
                twice = (*switches[:place + 1], switches[place], (0, 0, 0, 0), *switches[place + 1:])
                self.refuses(ArgumentError, "switches", switched, cloth, twice)
        # The second one is a switch behind the first one alone.
        rows = ((1, 0, 0), (0, 1, 1))
        self.assertEqual(switched(rows, ((0, 1, 0, 1), (0, 1, 1, 2))), ((0, 0, 1), (1, 1, 0)))
        self.refuses(ArgumentError, "switches", switched, rows, ((0, 1, 1, 2),))

    def test_wrong_switches(self):
        right = ((0, 1, 0, 1),)
        for switches in [*variants(right), *ODD_VALUES]:
            if type(switches) is tuple and all([repr(part) == repr(right[0]) for part in switches]):
                continue
            self.refuses(ArgumentError, "switches", switched, PLAIN, switches)
        self.refuses(ClothError, "form", switched, None, None)
        self.stands_any_values(switched, PLAIN, right)


class SwitchesBetweenTest(WeaveTest):
    def test_examples(self):
        self.assertEqual(switches_between(PLAIN, OTHER), ((0, 1, 0, 1),))
        self.assertEqual(switches_between(PLAIN, PLAIN), ())
        self.assertIsNone(switches_between(PLAIN, ((1, 1), (0, 0))))
        self.assertIsNone(switches_between(((0, 0),), ((0,), (0,))))
        self.assertIsNone(switches_between(((0, 0),), ((0, 0, 0),)))
        self.assertIsNone(switches_between(((0, 0),), ((0, 0),) * 2))

    def test_all_small_cloths(self):
        for picks, ends in ((2, 2), (2, 3), (3, 2), (3, 3)):
            for cloths in by_sums(picks, ends).values():
                for first, second in itertools.product(cloths, repeat=2):
                    self.assertEqual(switched(first, switches_between(first, second)), second)

    def test_larger_cloths(self):
        chance = random.Random(126)
        for cloth in some_cloths(127, 60, 7):
            goal = shuffled(chance, cloth, 12)[0]
            self.assertEqual(switched(cloth, switches_between(cloth, goal)), goal)
        for cloth in some_cloths(128, 60, 24):
            goal = slow_build(*slow_sums(cloth))
            self.assertEqual(switched(cloth, switches_between(cloth, goal)), goal)
            self.assertEqual(switched(goal, switches_between(goal, cloth)), cloth)

    def test_unlike_sums(self):
        cloths = all_cloths(2, 2) + all_cloths(1, 3)
        for first, second in itertools.product(cloths, repeat=2):
            alike = slow_sums(first) == slow_sums(second)
            self.assertEqual(switches_between(first, second) is not None, alike)

    def test_wrong_cloths(self):
        self.refuses(ClothError, "form", switches_between, None, ())
        self.refuses(ClothError, "picks", switches_between, PLAIN, ())
        self.refuses(ClothError, "crossing", switches_between, ((True,),), ())
        self.stands_any_values(switches_between, PLAIN, OTHER)


class FallsTest(WeaveTest):
    def test_same_sums_same_answer(self):
        for picks, ends in ((2, 2), (2, 3), (3, 3)):
            for cloths in by_sums(picks, ends).values():
                self.assertEqual(len({falls_by_sums(cloth) for cloth in cloths}), 1)
                self.assertEqual(len({hangs_together(cloth)[0] for cloth in cloths}), 1)
        chance = random.Random(129)
        for cloth in some_cloths(130, 60, 7):
            goal = shuffled(chance, cloth, 8)[0]
            self.assertEqual(falls_by_sums(cloth), falls_by_sums(goal))
            self.assertEqual(hangs_together(cloth)[0], hangs_together(goal)[0])
