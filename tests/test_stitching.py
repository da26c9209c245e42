"""Points 118 to 120: stitches."""

import itertools

from hangstogether.errors import ArgumentError, ClothError
from hangstogether.layers import hangs_together
from hangstogether.stitching import accept_stitches, fewest_stitches, least_needed
from tests.helpers import ODD_VALUES, WeaveTest, all_cloths, is_above, some_cloths, threads_in, variants

APART = ((1, 1), (0, 0))
PLAIN = ((1, 0), (0, 1))
TWILL = ((1, 1, 0), (0, 1, 1), (1, 0, 1))


def turned_at(cloth, crossings):
    return tuple([
        tuple([1 - part if (pick, end) in crossings else part for end, part in enumerate(row)])
        for pick, row in enumerate(cloth)
    ])


def crossings_of(cloth):
    return [(pick, end) for pick in range(len(cloth)) for end in range(len(cloth[0]))]


def slow_hangs(cloth):
    """Tell by trying all sets of threads whether a cloth hangs together."""
    threads = threads_in(cloth)
    for number in range(1, 2 ** len(threads) - 1):
        some = [thread for place, thread in enumerate(threads) if number & 2 ** place]
        rest = [thread for thread in threads if thread not in some]
        if not any([is_above(cloth, upper, lower) for upper in rest for lower in some]):
            return False
    return True


def slow_fewest(cloth, most):
    for count in range(most + 1):
        for row in itertools.combinations(crossings_of(cloth), count):
            if hangs_together(turned_at(cloth, row))[0] == "together":
                return row
    return None


class FewestTest(WeaveTest):
    def test_examples(self):
        self.assertEqual((fewest_stitches(APART, 2), least_needed(APART)), (((0, 0), (1, 0)), 1))
        for most in range(4):
            self.assertEqual(fewest_stitches(PLAIN, most), ())
            self.assertIsNone(fewest_stitches(((1,),), most))
            self.assertIsNone(fewest_stitches(((1, 0, 1),), most))
        self.assertIsNone(fewest_stitches(APART, 1))
        self.assertIsNone(fewest_stitches(APART, 0))
        self.assertIsNone(fewest_stitches(((1,) * 4,) * 4, 3))

    def test_beside_trying_all_sets(self):
        for cloth in all_cloths(2, 2) + all_cloths(3, 2) + all_cloths(2, 3):
            found = [
                row for count in range(4) for row in itertools.combinations(crossings_of(cloth), count)
                if slow_hangs(turned_at(cloth, row))
            ]
            for most in range(4):
                short = [row for row in found if len(row) <= most]
                self.assertEqual(fewest_stitches(cloth, most), short[0] if short else None)

    def test_beside_trying_all_rows(self):
        answers = {}
        cloths = all_cloths(3, 3)[::7] + [cloth for cloth in some_cloths(181, 200, 4)]
        for cloth in cloths:
            for most in (0, 1, 2, 3):
                told = fewest_stitches(cloth, most)
                self.assertEqual(told, slow_fewest(cloth, most))
                answers[told and len(told)] = answers.get(told and len(told), 0) + 1
                if told is not None:
                    self.assertIsNone(accept_stitches(cloth, most, told))
        self.assertEqual(set(answers), {None, (), 1, 2, 3})

    def test_wrong_arguments(self):
        functions = (fewest_stitches, lambda cloth, most: accept_stitches(cloth, most, None))
        for function in functions:
            self.refuses(ClothError, "form", function, None, None)
            self.refuses(ClothError, "crossing", function, ((0, 0, 0, 0, True),), None)
            for cloth in (((0,) * 5,), ((0,),) * 5, ((0,) * 24,) * 24):
                self.refuses(ArgumentError, "size", function, cloth, 1)
                self.refuses(ArgumentError, "size", function, cloth, None)
            for most in (-1, 4, True, False, None, "1", (1,), 10 ** 30):
                self.refuses(ArgumentError, "most", function, PLAIN, most)
            self.stands_any_values(function, PLAIN, 2)


class AcceptTest(WeaveTest):
    def reason(self, cloth, most, told):
        if type(told) is not tuple or len(told) > most:
            return "form"
        right = [repr(crossing) for crossing in crossings_of(cloth)]
        places = [right.index(repr(part)) if repr(part) in right else None for part in told]
        if None in places or places != sorted(set(places)):
            return "crossings"
        return None if hangs_together(turned_at(cloth, told))[0] == "together" else "apart"

    def test_all_rows(self):
        for cloth in (APART, PLAIN, ((1, 1, 0), (0, 0, 1)), ((0,),)):
            for most in range(4):
                for count in range(4):
                    for told in itertools.product(crossings_of(cloth), repeat=count):
                        self.judges(self.reason(cloth, most, told), accept_stitches, cloth, most, told)

    def test_changed_rows(self):
        reasons = set()
        cases = ((APART, 2, ((0, 0), (1, 0))), (APART, 3, ((0, 1), (1, 0))), (PLAIN, 3, ()), (APART, 1, ((0, 0),)))
        for cloth, most, right in cases:
            for told in [right, *variants(right), *ODD_VALUES]:
                reason = self.reason(cloth, most, told)
                self.judges(reason, accept_stitches, cloth, most, told)
                reasons.add(reason)
        self.assertEqual(reasons, {None, "form", "crossings", "apart"})

    def test_first_reasons(self):
        self.judges("form", accept_stitches, APART, 1, ((0, 9), (0, 0)))
        self.judges("crossings", accept_stitches, APART, 2, ((0, 0), (0, 0)))
        self.judges("crossings", accept_stitches, APART, 2, ((1, 0), (0, 0)))
        self.judges("crossings", accept_stitches, APART, 2, ((False, 0), (1, 0)))
        self.judges("apart", accept_stitches, APART, 2, ((0, 0), (0, 1)))
        # Not the first one, and not the fewest.
        self.judges(None, accept_stitches, APART, 2, ((0, 1), (1, 1)))
        self.assertEqual(fewest_stitches(TWILL, 1), ())
        self.judges(None, accept_stitches, TWILL, 1, ((0, 0),))
        self.stands_any_values(accept_stitches, APART, 2, ((0, 0), (1, 0)))


class LeastNeededTest(WeaveTest):
    def slow(self, cloth):
        if hangs_together(cloth)[0] == "together":
            return 0
        threads = threads_in(cloth)
        crossed = lambda thread: [other for other in threads if other[0] != thread[0]]
        above = [one for one in threads if all([is_above(cloth, one, other) for other in crossed(one)])]
        below = [one for one in threads if all([is_above(cloth, other, one) for other in crossed(one)])]
        return max(len(above), len(below), 1)

    def test_examples(self):
        self.assertEqual(least_needed(PLAIN), 0)
        self.assertEqual(least_needed(((1,),)), 1)
        self.assertEqual(least_needed(((1, 1, 1),)), 3)
        self.assertEqual(least_needed(((0,), (0,), (0,), (1,))), 3)
        # Two pieces, one above the other, in which no thread lies above or below all others.
        self.assertEqual(least_needed(((1, 0, 0, 0), (0, 1, 0, 0), (1, 1, 1, 0), (1, 1, 0, 1))), 1)

    def test_greater_cloths(self):
        self.assertEqual(least_needed(((0,) * 24,) * 24), 24)
        self.assertEqual(least_needed(((1,) * 24,) * 3), 24)
        self.assertEqual(least_needed(((1, 0) * 12, (0, 1) * 12) * 12), 0)
        for cloth in some_cloths(182, 300, 24):
            self.assertEqual(least_needed(cloth), self.slow(cloth))

    def test_is_needed(self):
        for cloth in all_cloths(3, 3)[::3] + all_cloths(2, 4)[::5]:
            told = fewest_stitches(cloth, 3)
            self.assertEqual(least_needed(cloth), self.slow(cloth))
            if told is not None:
                self.assertLessEqual(least_needed(cloth), len(told))

    def test_wrong_arguments(self):
        self.refuses(ClothError, "form", least_needed, None)
        self.refuses(ClothError, "ends", least_needed, ((0,) * 25,))
        self.stands_any_values(least_needed, PLAIN)
