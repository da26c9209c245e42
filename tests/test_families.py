"""Points 62 to 66: families."""

import itertools
import math
import random

from hangstogether.errors import ArgumentError, ClothError
from hangstogether.families import accept_twill_step, family, satin, satin_steps, satins, twill, twill_step
from hangstogether.turns import compare, reduced, turned
from tests.helpers import WeaveTest, all_cloths, some_cloths, variants

PLAIN = ((1, 0), (0, 1))


def shifted_row(row, step):
    """Return a row in which what stood at an end stands so many ends further."""
    found = [None] * len(row)
    for end, part in enumerate(row):
        found[(end + step) % len(row)] = part
    return tuple(found)


def all_lengths(most):
    found = []
    for total in range(2, most + 1):
        for cuts in itertools.chain.from_iterable(
            itertools.combinations(range(1, total), count) for count in range(1, total, 2)
        ):
            found.append(tuple([high - low for low, high in zip((0, *cuts), (*cuts, total))]))
    return found


def fitting_steps(cloth, upto):
    """Return the steps by which each row up to some pick becomes the row behind it."""
    rows = reduced(cloth)
    return [step for step in range(len(rows[0])) if all([
        shifted_row(rows[pick], step) == rows[(pick + 1) % len(rows)] for pick in range(upto + 1)
    ])]


def slow_step(cloth):
    rows = reduced(cloth)
    for pick in range(len(rows)):
        if not fitting_steps(cloth, pick):
            return "rows", pick
    return "twill", fitting_steps(cloth, len(rows) - 1)[0]


def slow_family(cloth):
    rows = reduced(cloth)
    if rows in (((0,),), ((1,),)):
        return "bare", rows[0][0]
    if rows in (PLAIN, PLAIN[::-1]):
        return ("plain",)
    word, step = slow_step(cloth)
    if word == "rows":
        return ("other",)
    ends, ones = len(rows[0]), sum(rows[0])
    if 2 <= step <= ends - 2 and math.gcd(step, ends) == 1 and (ones == 1 or ends - ones == 1):
        return "satin", ones, step
    start = [end for end in range(ends) if rows[0][end] == 1 and rows[0][end - 1] == 0][0]
    text = "".join([str(rows[0][(start + end) % ends]) for end in range(ends)])
    return "twill", tuple([len(list(group)) for _, group in itertools.groupby(text)]), step


class TwillTest(WeaveTest):
    def test_example(self):
        self.assertEqual(twill((2, 1), 1), ((1, 1, 0), (0, 1, 1), (1, 0, 1)))
        self.assertEqual(twill((2, 1), 0), ((1, 1, 0),))
        self.assertEqual(twill((1, 1, 1, 1), 2), ((1, 0, 1, 0),))
        self.assertEqual(twill((1, 1, 1, 1), 1), ((1, 0, 1, 0), (0, 1, 0, 1)))
        self.assertEqual(twill((1, 3), 2), ((1, 0, 0, 0), (0, 0, 1, 0)))

    def test_all_lengths(self):
        for parts in all_lengths(8):
            first = tuple([1 - place % 2 for place, size in enumerate(parts) for _ in range(size)])
            for step in range(sum(parts)):
                rows = [first]
                while shifted_row(rows[-1], step) != first:
                    rows.append(shifted_row(rows[-1], step))
                self.assertEqual(twill(parts, step), tuple(rows))

    def test_greatest(self):
        self.assertEqual(len(twill((1, 23), 1)), 24)
        self.assertEqual(len(twill((1, 1) * 12, 1)), 2)
        self.assertEqual(len(twill((23, 1), 23)), 24)
        for parts in ((1, 24), (24, 1), (2, 1) * 8 + (1, 0), (1, 1) * 13, (12, 13)):
            self.refuses(ArgumentError, "parts", twill, parts, 0)

    def test_wrong_arguments(self):
        wrong = (
            None, 2, (), (1,), (2, 1, 1), [2, 1], (0, 1), (1, 0), (-1, 3), (True, 1), ("2", 1), (2, None), (10 ** 30, 1),
        )
        for parts in wrong:
            self.refuses(ArgumentError, "parts", twill, parts, 0)
            self.refuses(ArgumentError, "parts", twill, parts, None)
        for step in (-1, 3, 4, True, None, "1", (1,)):
            self.refuses(ArgumentError, "step", twill, (2, 1), step)
        self.stands_any_values(twill, (2, 1), 1)


class SatinTest(WeaveTest):
    def test_examples(self):
        self.assertEqual(satins(8), ((3, 5),))
        self.assertEqual(satin(5, 2), (
            (1, 0, 0, 0, 0), (0, 0, 1, 0, 0), (0, 0, 0, 0, 1), (0, 1, 0, 0, 0), (0, 0, 0, 1, 0),
        ))
        self.assertEqual(satin_steps(5), (2, 3))
        self.assertEqual(satins(11), ((2, 5, 6, 9), (3, 4, 7, 8)))

    def test_all_numbers_of_ends(self):
        for ends in range(1, 25):
            steps = tuple([step for step in range(2, ends - 1) if math.gcd(step, ends) == 1])
            self.assertEqual(satin_steps(ends), steps)
            for step in range(-1, ends + 1):
                if step in steps:
                    rows = tuple([tuple([1 if end == pick * step % ends else 0 for end in range(ends)])
                                  for pick in range(ends)])
                    self.assertEqual(satin(ends, step), rows)
                else:
                    self.refuses(ArgumentError, "step", satin, ends, step)

    def kin(self, ends, step, other):
        lacks = ends - other
        return step == other or step == lacks or 1 in (step * other % ends, step * lacks % ends)

    def test_kin_of_all_numbers_of_ends(self):
        for ends in range(1, 25):
            steps = satin_steps(ends)
            groups = satins(ends)
            self.assertEqual(sorted([step for group in groups for step in group]), list(steps))
            self.assertEqual(list(groups), sorted([tuple(sorted(group)) for group in groups]))
            for step, other in itertools.product(steps, repeat=2):
                together = any([step in group and other in group for group in groups])
                self.assertEqual(together, self.kin(ends, step, other))

    def test_kin_satins_differ_by_a_turn(self):
        for ends in range(5, 14):
            for step, other in itertools.combinations(satin_steps(ends), 2):
                together = any([step in group and other in group for group in satins(ends)])
                self.assertEqual(compare(satin(ends, step), satin(ends, other))[0] == "same", together)

    def test_no_satins(self):
        for ends in (1, 2, 3, 4, 6):
            self.assertEqual((satin_steps(ends), satins(ends)), ((), ()))

    def test_wrong_arguments(self):
        for ends in (0, -1, 25, True, None, "8", (8,), 10 ** 30):
            for function in (satin_steps, satins, lambda ends: satin(ends, None)):
                self.refuses(ArgumentError, "ends", function, ends)
        for step in (True, None, "3", (3,), 2, 4, 11, -3, 10 ** 30):
            self.refuses(ArgumentError, "step", satin, 8, step)
        for function in (satin_steps, satins):
            self.stands_any_values(function, 8)
        self.stands_any_values(satin, 8, 3)


class TwillStepTest(WeaveTest):
    def test_examples(self):
        self.assertEqual(twill_step(PLAIN), ("twill", 1))
        self.assertEqual(twill_step(((1, 0, 1, 0), (0, 1, 0, 1))), ("twill", 1))
        self.assertEqual(twill_step(((1,),)), ("twill", 0))
        self.assertEqual(twill_step(((1, 1, 0),) * 2), ("twill", 0))
        self.assertEqual(twill_step(((1, 1), (0, 0))), ("rows", 0))
        self.assertEqual(twill_step(((1, 0, 0), (0, 1, 0), (1, 0, 0))), ("rows", 1))
        self.assertEqual(twill_step(((1, 0, 0), (0, 1, 0), (0, 0, 1), (1, 1, 0))), ("rows", 2))
        self.assertEqual(twill_step(((1, 0, 0), (0, 1, 0))), ("rows", 1))

    def test_some_cloths(self):
        cloths = all_cloths(2, 3) + all_cloths(3, 3) + all_cloths(1, 4) + some_cloths(61, 100, 5)
        cloths += [twill(parts, step) for parts in all_lengths(6) for step in range(sum(parts))]
        for cloth in cloths:
            self.assertEqual(twill_step(cloth), slow_step(cloth))
            self.assertIsNone(accept_twill_step(cloth, twill_step(cloth)))

    def reason(self, cloth, told):
        if not isinstance(told, tuple) or len(told) != 2 or told[0] not in ("twill", "rows"):
            return "form"
        if told[0] == "rows":
            return None if repr(told) == repr(slow_step(cloth)) else "rows"
        right = type(told[1]) is int and told[1] in fitting_steps(cloth, len(reduced(cloth)) - 1)
        return None if right else "step"

    def test_accept(self):
        broken = ((1, 0, 0), (0, 1, 0), (1, 0, 0))
        doubled = tuple([row * 2 for row in twill((2, 1), 1)])
        for cloth in (PLAIN, ((1, 1), (0, 0)), broken, satin(8, 3), twill((3, 1), 1), doubled, ((1,),)):
            told = [*variants(twill_step(cloth)), *[(word, n) for word in ("twill", "rows") for n in range(-1, 9)]]
            for other in told:
                self.judges(self.reason(cloth, other), accept_twill_step, cloth, other)
            self.stands_any_values(accept_twill_step, cloth, twill_step(cloth))

    def test_wrong_cloths(self):
        for function in (twill_step, family, lambda cloth: accept_twill_step(cloth, None)):
            self.refuses(ClothError, "form", function, None)
            self.refuses(ClothError, "crossing", function, ((True,),))
        self.stands_any_values(twill_step, PLAIN)
        self.stands_any_values(family, PLAIN)


class FamilyTest(WeaveTest):
    def test_each_answer(self):
        self.assertEqual(family(((1, 1), (1, 1))), ("bare", 1))
        self.assertEqual(family(((0,),)), ("bare", 0))
        self.assertEqual(family(PLAIN), ("plain",))
        self.assertEqual(family(tuple([row * 3 for row in PLAIN[::-1]]) * 4), ("plain",))
        self.assertEqual(family(satin(5, 2)), ("satin", 1, 2))
        self.assertEqual(family(twill((7, 1), 5)), ("satin", 7, 5))
        self.assertEqual(family(twill((2, 2), 1)), ("twill", (2, 2), 1))
        self.assertEqual(family(((1, 1), (0, 0))), ("other",))

    def test_which_one_goes_ahead(self):
        # The plain cloth is a twill, too, and the satins are twills.
        self.assertEqual(family(twill((1, 1), 1)), ("plain",))
        self.assertEqual(family(twill((1, 4), 1)), ("twill", (1, 4), 1))
        self.assertEqual(family(twill((1, 4), 4)), ("twill", (1, 4), 4))
        self.assertEqual(family(twill((1, 4), 3)), ("satin", 1, 3))
        self.assertEqual(family(twill((1, 3), 2)), ("twill", (1, 3), 2))
        self.assertEqual(family(twill((2, 3), 2)), ("twill", (2, 3), 2))
        self.assertEqual(family(twill((1, 2), 1)), ("twill", (1, 2), 1))
        self.assertEqual(family(((1, 0),)), ("twill", (1, 1), 0))
        self.assertEqual(family(((1,), (0,))), ("other",))

    def test_first_one_with_a_zero_before_it(self):
        self.assertEqual(family(((1, 0, 1, 1, 0, 1),)), ("twill", (2, 1), 0))
        self.assertEqual(family(((1, 0, 0, 1, 1, 0, 1),)), ("twill", (2, 1, 2, 2), 0))
        self.assertEqual(family(((0, 1, 0, 0, 1, 1),)), ("twill", (1, 2, 2, 1), 0))
        self.assertEqual(family(((0, 1, 1, 0, 0, 0, 1),)), ("twill", (2, 3, 1, 1), 0))

    def test_some_cloths(self):
        chance = random.Random(62)
        cloths = all_cloths(2, 2) + all_cloths(2, 3) + all_cloths(3, 3) + all_cloths(1, 5) + some_cloths(63, 60, 6)
        for parts in all_lengths(9):
            for step in range(sum(parts)):
                cloth = twill(parts, step)
                cloths.append(turned(cloth, ((0, 0, 0, 0), chance.randint(0, 9), chance.randint(0, 9))))
        for cloth in cloths:
            self.assertEqual(family(cloth), slow_family(cloth))
