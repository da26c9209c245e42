"""Points 41 to 44: pictures without a cloth."""

import itertools
import random

from hangstogether.colours import picture
from hangstogether.errors import ArgumentError, PaperError
from hangstogether.pictures import accept_picture, weave_picture
from tests.helpers import WeaveTest, all_cloths, deep, some_cloths, variants

ROWS = (("a", "b"), ("c", "d"))
OPEN = ((None, None), (None, None))
# In a row of three colours the pick has one of them, so two columns of each two rows are bound to their ends.
BARRED = (("a", "b", "c"), ("d", "e", "f"), ("g", "h", "i"))
UNKNOWN = ((None,) * 3,) * 3


def unknown(rows):
    return tuple([(None,) * len(row) for row in rows])


def is_woven(rows, known):
    """Tell whether some cloth and plan show a picture, by trying all cloths."""
    for cloth in all_cloths(len(rows), len(rows[0])):
        fits = [want is None or part == want for row, wants in zip(cloth, known) for part, want in zip(row, wants)]
        if all(fits) and shows(cloth, rows):
            return True
    return False


def shows(cloth, rows):
    seen = {}
    for pick, row in enumerate(cloth):
        for end, part in enumerate(row):
            seen.setdefault(("end", end) if part else ("pick", pick), set()).add(rows[pick][end])
    return all([len(colours) == 1 for colours in seen.values()])


def at_once(rows, known, claim):
    """Return all claims that follow at once from a claim, as point 42 tells it."""
    kind, number, colour, holds = claim
    if kind == "end":
        met = [(("pick", pick), row[number], known[pick][number] == 1) for pick, row in enumerate(rows)]
    else:
        places = enumerate(zip(rows[number], known[number]))
        met = [(("end", end), seen, want == 0) for end, (seen, want) in places]
    if holds:
        return [(kind, number, seen, False) for _, seen, _ in met if seen != colour]
    found = [(*other, colour, True) for other, seen, _ in met if seen == colour]
    return found + [(kind, number, colour, True) for _, seen, sure in met if sure and seen == colour]


def is_claim(rows, value):
    return (
        type(value) is tuple and len(value) == 4 and value[0] in ("end", "pick") and type(value[1]) is int
        and 0 <= value[1] < (len(rows[0]) if value[0] == "end" else len(rows))
        and type(value[2]) is str and 1 <= len(value[2]) <= 12 and type(value[3]) is bool
    )


def is_chain(rows, known, value):
    if type(value) is not tuple or len(value) < 2 or not all([is_claim(rows, part) for part in value]):
        return False
    return all([further in at_once(rows, known, claim) for claim, further in zip(value, value[1:])])


def opposite(claim):
    return (*claim[:3], not claim[3])


class AcceptBase(WeaveTest):
    def reason(self, rows, known, told):
        if type(told) is not tuple or len(told) != 3 or told[0] not in ("cloth", "chains"):
            return "form"
        if told[0] == "cloth":
            _, cloth, plan = told
            if repr(cloth) not in [repr(other) for other in all_cloths(len(rows), len(rows[0]))]:
                return "cloth"
            for row, wants in zip(cloth, known):
                if any([want is not None and part != want for part, want in zip(row, wants)]):
                    return "cloth"
            if type(plan) is not tuple or [type(part) for part in plan] != [tuple, tuple]:
                return "plan"
            if [len(part) for part in plan] != [len(rows[0]), len(rows)]:
                return "plan"
            if not all([type(colour) is str and 1 <= len(colour) <= 12 for part in plan for colour in part]):
                return "plan"
            return None if picture(cloth, plan) == rows else "plan"
        _, first, second = told
        if not is_chain(rows, known, first) or not is_chain(rows, known, second):
            return "chain"
        ends = first[-1] == opposite(first[0]) == second[0] and second[-1] == first[0]
        return None if ends else "ends"

    def check(self, rows, known, told):
        reason = self.reason(rows, known, told)
        if reason is None:
            self.assertIsNone(accept_picture(rows, known, told))
        else:
            self.refuses(PaperError, reason, accept_picture, rows, known, told)


class WeaveTestCase(AcceptBase):
    def check_answer(self, rows, known):
        told = weave_picture(rows, known)
        self.assertIsNone(self.reason(rows, known, told))
        self.assertIsNone(accept_picture(rows, known, told))
        return told[0]

    def test_example(self):
        self.assertEqual(weave_picture(ROWS, OPEN)[0], "cloth")
        self.assertEqual(self.check_answer(BARRED, UNKNOWN), "chains")

    def test_all_small_pictures(self):
        for flat in itertools.product("abcd", repeat=4):
            rows = (flat[:2], flat[2:])
            for parts in itertools.product((0, 1, None), repeat=4):
                known = (parts[:2], parts[2:])
                self.assertEqual(self.check_answer(rows, known) == "cloth", is_woven(rows, known))

    def test_some_pictures(self):
        chance = random.Random(24)
        words = []
        for _ in range(150):
            picks, ends, colours = chance.randint(1, 3), chance.randint(1, 4), "abcdefgh"[:chance.randint(1, 8)]
            rows = tuple([tuple([chance.choice(colours) for _ in range(ends)]) for _ in range(picks)])
            known = tuple([tuple([chance.choice((0, 1, None, None, None)) for _ in range(ends)]) for _ in range(picks)])
            for some in (known, unknown(rows)):
                words.append(self.check_answer(rows, some))
                self.assertEqual(words[-1] == "cloth", is_woven(rows, some))
        self.assertGreater(words.count("cloth"), 30)
        self.assertGreater(words.count("chains"), 30)

    def test_pictures_of_cloths(self):
        chance = random.Random(25)
        for cloth in some_cloths(26, 40, 24):
            plan = tuple([tuple([chance.choice("abcde") for _ in range(count)]) for count in (len(cloth[0]), len(cloth))])
            rows = picture(cloth, plan)
            known = tuple([tuple([chance.choice((part, None)) for part in row]) for row in cloth])
            for some in (cloth, known, unknown(rows)):
                told = weave_picture(rows, some)
                self.assertEqual(told[0], "cloth")
                self.assertEqual(picture(*told[1:]), rows)
                self.assertIsNone(accept_picture(rows, some, told))

    def test_large_pictures_that_none_shows(self):
        for size in (3, 8, 24):
            rows = tuple([tuple(["c" + str(pick * size + end) for end in range(size)]) for pick in range(size)])
            known = unknown(rows)
            told = weave_picture(rows, known)
            self.assertEqual(told[0], "chains")
            self.assertTrue(is_chain(rows, known, told[1]) and is_chain(rows, known, told[2]))
            self.assertIsNone(accept_picture(rows, known, told))

    def test_one_crossing(self):
        for part in (0, 1):
            self.assertEqual(weave_picture((("a",),), ((part,),))[1], ((part,),))
        self.assertEqual(self.check_answer((("a", "b"),), ((1, 0),)), "cloth")
        self.assertEqual(self.check_answer((("a", "b"),), ((0, 0),)), "chains")


class ArgumentsTest(WeaveTest):
    def test_wrong_pictures(self):
        wrong = (
            None, 0, "ab", (), ((),), ((), ()), [("a",)], (["a"],), (("a",), ("a", "b")), ((1,),), ((None,),), (("",),),
            (("x" * 13,),), (("a",) * 25,), (("a",),) * 25, ("ab",), (("a", ("b",)),), (("a",), None), deep(),
        )
        for rows in wrong:
            self.refuses(ArgumentError, "picture", weave_picture, rows, None)
            self.refuses(ArgumentError, "picture", accept_picture, rows, None, None)

    def test_wrong_known(self):
        wrong = (
            None, 0, (), OPEN[:1], (*OPEN, OPEN[0]), list(OPEN), ([None, None], OPEN[1]), ((None,), OPEN[1]),
            ((None,) * 3, OPEN[1]), ((None, 2), OPEN[1]), ((None, True), OPEN[1]), ((None, False), OPEN[1]),
            ((None, "1"), OPEN[1]), ((None, ()), OPEN[1]), ((None, -1), OPEN[1]), (None, OPEN[1]),
        )
        for known in wrong:
            self.refuses(ArgumentError, "known", weave_picture, ROWS, known)
            self.refuses(ArgumentError, "known", accept_picture, ROWS, known, None)
        self.stands_any_values(weave_picture, ROWS, OPEN)


class AcceptTest(AcceptBase):
    def test_one_thing_changed(self):
        known = ((1, None), (None, None))
        for rows, some in ((ROWS, OPEN), (ROWS, known), ((("a", "a"),), ((None, 0),)), (BARRED, UNKNOWN)):
            for told in variants(weave_picture(rows, some)):
                self.check(rows, some, told)
        sure = (("a", "b"),), ((0, 0),)
        for told in variants(weave_picture(*sure)):
            self.check(*sure, told)

    def test_all_cloths_and_plans(self):
        known = ((None, 0), (None, None))
        for cloth in all_cloths(2, 2):
            for warp in itertools.product("abcd", repeat=2):
                self.check(ROWS, known, ("cloth", cloth, (warp, ("b", "c"))))
                self.check(ROWS, known, ("cloth", cloth, (warp, ("b", "d"))))

    def test_order_of_errors(self):
        self.refuses(PaperError, "form", accept_picture, ROWS, OPEN, ("cloth", None))
        self.refuses(PaperError, "form", accept_picture, ROWS, OPEN, ["cloth", (), ()])
        self.refuses(PaperError, "form", accept_picture, ROWS, OPEN, ("chain", (), ()))
        self.refuses(PaperError, "cloth", accept_picture, ROWS, OPEN, ("cloth", None, None))
        self.refuses(PaperError, "cloth", accept_picture, ROWS, OPEN, ("cloth", ((1, 0),), None))
        self.refuses(PaperError, "cloth", accept_picture, ROWS, OPEN, ("cloth", ((1, True), (0, 0)), None))
        self.refuses(PaperError, "cloth", accept_picture, ROWS, ((0, None), OPEN[0]), ("cloth", ((1, 0), (0, 1)), None))
        self.refuses(PaperError, "plan", accept_picture, ROWS, OPEN, ("cloth", ((1, 1), (0, 1)), None))
        self.refuses(PaperError, "chain", accept_picture, ROWS, OPEN, ("chains", None, None))

    def test_chains(self):
        _, first, second = weave_picture(BARRED, UNKNOWN)
        self.check(BARRED, UNKNOWN, ("chains", second, first))
        self.check(BARRED, UNKNOWN, ("chains", first + second[1:] + first[1:], second))
        self.check(BARRED, UNKNOWN, ("chains", first, first))
        self.check(BARRED, UNKNOWN, ("chains", first[:2], second))
        self.check(BARRED, UNKNOWN, ("chains", first[:1], second))
        # The second chain leads back to the beginning, but the first one does not end with its opposite.
        self.check(BARRED, UNKNOWN, ("chains", first[:4], first[3:] + second[1:]))
        self.refuses(PaperError, "ends", accept_picture, BARRED, UNKNOWN, ("chains", first[:4], first[3:] + second[1:]))
        self.check(BARRED, UNKNOWN, ("chains", first, second[::-1]))
        self.check(BARRED, UNKNOWN, ("chains", first, (*second, second[-1])))

    def test_first_claim_with_another_colour(self):
        # It is a claim of a thread that there is, though the thread does not meet this colour.
        chain = ("end", 0, "z", True), ("end", 0, "a", False)
        self.refuses(PaperError, "ends", accept_picture, BARRED, UNKNOWN, ("chains", chain, chain))
        long = ("end", 0, "z" * 13, True), ("end", 0, "a", False)
        self.refuses(PaperError, "chain", accept_picture, BARRED, UNKNOWN, ("chains", chain, long))
        none = ("end", 0, "z", False), ("end", 0, "z", True)
        self.refuses(PaperError, "chain", accept_picture, BARRED, UNKNOWN, ("chains", chain, none))
        other = ("end", 3, "z", True), ("end", 3, "a", False)
        self.refuses(PaperError, "chain", accept_picture, BARRED, UNKNOWN, ("chains", chain, other))

    def test_long_chains(self):
        _, first, second = weave_picture(BARRED, UNKNOWN)
        whole = first + (second[1:] + first[1:]) * 150
        self.assertIsNone(accept_picture(BARRED, UNKNOWN, ("chains", whole, second)))

    def test_any_values(self):
        told = weave_picture(ROWS, OPEN)
        self.stands_any_values(accept_picture, ROWS, OPEN, told)
        self.stands_any_values(lambda *parts: accept_picture(ROWS, OPEN, parts), *told)
        chains = weave_picture(BARRED, UNKNOWN)
        self.stands_any_values(lambda *parts: accept_picture(BARRED, UNKNOWN, parts), *chains)
        self.stands_any_values(lambda part: accept_picture(BARRED, UNKNOWN, ("chains", chains[1], (part, part))), ())
