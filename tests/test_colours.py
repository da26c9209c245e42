"""Points 37 to 40: colours of a cloth."""

import itertools
import random

from hangstogether.colours import (
    accept_nearest,
    accept_plan_of,
    nearest,
    picture,
    picture_behind,
    plan_of,
    tallies,
)
from hangstogether.errors import ArgumentError, ClothError, PaperError
from tests.helpers import WeaveTest, all_cloths, some_cloths, threads_in, variants

PLAIN = ((1, 0), (0, 1))
PLAN = (("red", "blue"), ("red", "green"))
CLOTH = ((1, 1), (1, 0))
ROWS = (("red", "blue"), ("blue", "red"))


def some_rows(seed, cloth, colours="ab"):
    chance = random.Random(seed)
    return tuple([tuple([chance.choice(colours) for _ in row]) for row in cloth])


def showing(cloth, thread):
    """Return the crossings that show a thread, in order."""
    kind, number = thread
    places = [(pick, end) for pick in range(len(cloth)) for end in range(len(cloth[0]))]
    if kind == "end":
        return [(pick, end) for pick, end in places if end == number and cloth[pick][end] == 1]
    return [(pick, end) for pick, end in places if pick == number and cloth[pick][end] == 0]


def all_plans(cloth, colours="ab"):
    for warp in itertools.product(colours, repeat=len(cloth[0])):
        for weft in itertools.product(colours, repeat=len(cloth)):
            yield warp, weft


def wrong_for(cloth, rows, plan):
    shown = picture(cloth, plan)
    return sum([one != other for row, seen in zip(rows, shown) for one, other in zip(row, seen)])


class PictureTest(WeaveTest):
    def test_example(self):
        self.assertEqual(picture(PLAIN, PLAN), (("red", "red"), ("green", "blue")))
        self.assertEqual(picture_behind(PLAIN, PLAN), (("blue", "red"), ("green", "red")))

    def test_each_crossing(self):
        for cloth in some_cloths(20, 30, 6):
            plan = tuple(map(str, range(len(cloth[0])))), tuple(["p" + str(pick) for pick in range(len(cloth))])
            front, behind = picture(cloth, plan), picture_behind(cloth, plan)
            for pick, row in enumerate(cloth):
                for end, part in enumerate(row):
                    pair = (plan[0][end], plan[1][pick])
                    self.assertEqual(front[pick][end], pair[1 - part])
                    self.assertEqual(behind[pick][len(row) - 1 - end], pair[part])

    def test_wrong_plans(self):
        wrong = (
            None, 0, "ab", (), PLAN[:1], (*PLAN, ()), list(PLAN), (list(PLAN[0]), PLAN[1]), (PLAN[0], "ab"),
            (("red",), PLAN[1]), (("red",) * 3, PLAN[1]), (PLAN[0], ("red",)), (("", "red"), PLAN[1]),
            (("x" * 13, "red"), PLAN[1]), ((None, "red"), PLAN[1]), (PLAN[0], (1, "red")), (PLAN[0], (("red",), "red")),
        )
        for function in (picture, picture_behind):
            for plan in wrong:
                self.refuses(ArgumentError, "plan", function, PLAIN, plan)
            self.refuses(ClothError, "form", function, None, None)
            self.stands_any_values(function, PLAIN, PLAN)
            self.assertEqual(len(function(PLAIN, (("x" * 12, " "), ("\n", "#")))), 2)


class PlanOfTest(WeaveTest):
    def test_example(self):
        self.assertEqual(plan_of(CLOTH, ROWS), ("clash", (0, 0), (1, 0)))
        self.assertEqual(plan_of(PLAIN, picture(PLAIN, PLAN)), ("plan", PLAN))
        self.assertEqual(plan_of(((1, 1),), (("a", "b"),)), ("plan", (("a", "b"), (None,))))

    def expected(self, cloth, rows):
        colours = []
        for thread in threads_in(cloth):
            places = showing(cloth, thread)
            for pick, end in places:
                if rows[pick][end] != rows[places[0][0]][places[0][1]]:
                    return "clash", places[0], (pick, end)
            colours.append(rows[places[0][0]][places[0][1]] if places else None)
        return "plan", (tuple(colours[:len(cloth[0])]), tuple(colours[len(cloth[0]):]))

    def test_plan_of(self):
        for cloth in all_cloths(2, 2):
            for flat in itertools.product("abc", repeat=4):
                rows = (flat[:2], flat[2:])
                self.assertEqual(plan_of(cloth, rows), self.expected(cloth, rows))
        for number, cloth in enumerate(some_cloths(21, 60, 6)):
            rows = some_rows(number, cloth)
            self.assertEqual(plan_of(cloth, rows), self.expected(cloth, rows))

    def test_wrong_pictures(self):
        wrong = (
            None, 0, "ab", (), ROWS[:1], (*ROWS, ROWS[0]), list(ROWS), (list(ROWS[0]), ROWS[1]), (("a",), ("b",)),
            (("a", "b"), ("a", "b", "c")), (("a", ""), ("a", "b")), (("a", "b"), ("a", "x" * 13)), (("a", 1), ("a", "b")),
            (("a", None), ("a", "b")), ("ab", "ab"),
        )
        for rows in wrong:
            for function in (plan_of, tallies, nearest):
                self.refuses(ArgumentError, "picture", function, CLOTH, rows)
                self.refuses(ClothError, "form", function, 1, rows)
            for function in (accept_plan_of, accept_nearest):
                self.refuses(ArgumentError, "picture", function, CLOTH, rows, None)
                self.refuses(ClothError, "picks", function, (), rows, None)
        for function in (plan_of, tallies, nearest):
            self.stands_any_values(function, CLOTH, ROWS)


class AcceptPlanOfTest(WeaveTest):
    def reason(self, cloth, rows, told):
        if type(told) is not tuple or (len(told), *told[:1]) not in ((2, "plan"), (3, "clash")):
            return "form"
        if told[0] == "plan":
            return None if repr(told) == repr(plan_of(cloth, rows)) else "plan"
        for thread in threads_in(cloth):
            for one, other in itertools.product(showing(cloth, thread), repeat=2):
                if rows[one[0]][one[1]] != rows[other[0]][other[1]] and repr(told[1:]) == repr((one, other)):
                    return None
        return "clash"

    def check(self, cloth, rows, told):
        reason = self.reason(cloth, rows, told)
        if reason is None:
            self.assertIsNone(accept_plan_of(cloth, rows, told))
        else:
            self.refuses(PaperError, reason, accept_plan_of, cloth, rows, told)

    def test_one_thing_changed(self):
        shown = picture(PLAIN, PLAN)
        for cloth, rows in ((CLOTH, ROWS), (PLAIN, shown), (((1, 1),), (("a", "b"),)), (((0, 0),), (("a", "b"),))):
            right = plan_of(cloth, rows)
            self.assertIsNone(accept_plan_of(cloth, rows, right))
            for told in variants(right):
                self.check(cloth, rows, told)

    def test_all_clashes(self):
        cloth, rows = ((1, 0, 0), (0, 0, 0)), (("a", "b", "c"), ("a", "b", "b"))
        places = [(pick, end) for pick in range(-1, 3) for end in range(-1, 4)]
        for first, second in itertools.product(places, repeat=2):
            self.check(cloth, rows, ("clash", first, second))
        self.check(cloth, rows, ("clash", (False, True), (0, 2)))
        self.check(cloth, rows, ("plan", (("a", None, None), ("b", "a"))))

    def test_any_values(self):
        self.stands_any_values(accept_plan_of, CLOTH, ROWS, ("clash", (0, 0), (1, 0)))
        self.stands_any_values(lambda *parts: accept_plan_of(CLOTH, ROWS, parts), "clash", (0, 0), (1, 0))
        self.stands_any_values(lambda part: accept_plan_of(CLOTH, ROWS, ("plan", part)), PLAN)


class NearestTest(WeaveTest):
    def test_tallies(self):
        self.assertEqual(
            tallies(((1, 0, 0, 0), (0, 1, 1, 1)), (("a", "c", "b", "c"), ("a", "b", "c", "a"))),
            ((("a", 1),), (("b", 1),), (("c", 1),), (("a", 1),), (("c", 2), ("b", 1)), (("a", 1),)),
        )
        self.assertEqual(tallies(((1,),), (("a",),)), ((("a", 1),), ()))
        for number, cloth in enumerate(some_cloths(22, 40, 6)):
            rows = some_rows(number, cloth, "abc")
            for thread, counts in zip(threads_in(cloth), tallies(cloth, rows)):
                seen = [rows[pick][end] for pick, end in showing(cloth, thread)]
                order = sorted(set(seen), key=seen.index)
                self.assertEqual(counts, tuple([(colour, seen.count(colour)) for colour in order]))

    def test_nearest(self):
        for number, cloth in enumerate(all_cloths(2, 2) + all_cloths(1, 3) + some_cloths(23, 25, 4)):
            rows = some_rows(number, cloth)
            wrong, plan = nearest(cloth, rows)
            self.assertEqual(wrong, wrong_for(cloth, rows, plan))
            self.assertEqual(wrong, min([wrong_for(cloth, rows, other) for other in all_plans(cloth)]))
            self.assertIsNone(accept_nearest(cloth, rows, (wrong, plan)))

    def test_accept_all_plans(self):
        for cloth, rows in ((CLOTH, ROWS), (((1, 1, 0),), (("a", "b", "a"),)), (((0, 0), (0, 0)), ROWS)):
            least = nearest(cloth, rows)[0]
            colours = sorted(set(rows[0]) | {"other"})
            for plan in all_plans(cloth, colours):
                wrong = wrong_for(cloth, rows, plan)
                if wrong == least:
                    self.assertIsNone(accept_nearest(cloth, rows, (wrong, plan)))
                else:
                    self.refuses(PaperError, "least", accept_nearest, cloth, rows, (wrong, plan))
                for other in (wrong + 1, wrong - 1, -wrong - 1):
                    self.refuses(PaperError, "wrong", accept_nearest, cloth, rows, (other, plan))

    def test_order_of_errors(self):
        wrong, plan = nearest(CLOTH, ROWS)
        for told in (None, wrong, (), (wrong,), (wrong, plan, 0), [wrong, plan], (None, plan), (True, plan), ("1", plan)):
            self.refuses(PaperError, "form", accept_nearest, CLOTH, ROWS, told)
        for other in (None, (), plan[:1], (plan[0], plan[1][:1]), (plan[0], (None, "red")), list(plan), ((1, 2), (3, 4))):
            self.refuses(PaperError, "plan", accept_nearest, CLOTH, ROWS, (wrong + 1, other))
        worse = (("none", "none"), ("none", "none"))
        self.refuses(PaperError, "wrong", accept_nearest, CLOTH, ROWS, (wrong, worse))
        self.refuses(PaperError, "least", accept_nearest, CLOTH, ROWS, (4, worse))

    def test_any_values(self):
        told = nearest(CLOTH, ROWS)
        self.stands_any_values(accept_nearest, CLOTH, ROWS, told)
        for other in variants(told):
            if not isinstance(other, tuple) or len(other) != 2:
                self.refuses(PaperError, "form", accept_nearest, CLOTH, ROWS, other)
        self.stands_any_values(lambda *parts: accept_nearest(CLOTH, ROWS, parts), *told)
