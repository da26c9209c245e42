"""Points 103 to 106: a loom at work."""

import random

from hangstogether.drafts import woven
from hangstogether.errors import ArgumentError, DraftError, LogError, LoomError
from hangstogether.weaving import Loom, rewoven
from tests.helpers import ODD_VALUES, WeaveTest

DRAFT = ((0, 1, 2, 0), ((0,), (1, 3), (0, 2)), ((0,), (0, 1), (2,)))
CLOTH = ((1, 0, 0, 1), (1, 1, 0, 1), (1, 0, 1, 1))
NO_NUMBERS = (None, True, False, "1", (), (1,), -1, 10 ** 30)
FORMS = {
    "weave": "weave", "undo": "undo", "break": "snap", "mend": "mend", "stick": "stick", "free": "free", "cut": "cut",
}


class Model:
    """A loom as point 104 tells it, worked out anew from all deeds that were done."""

    def __init__(self, draft, deeds):
        self.cloth = woven(draft)
        self.plan = [{shaft for treadle in pressed for shaft in draft[1][treadle]} for pressed in draft[2]]
        self.shafts = list(draft[0])
        self.broken = set()
        self.stuck = {}
        self.rows = []
        self.pieces = []
        self.gone = []
        for word, *told in deeds:
            getattr(self, FORMS[word])(*told)

    def weave(self, picks):
        for _ in range(picks):
            lifted = self.plan[len(self.rows) % len(self.plan)]
            row = []
            for end, shaft in enumerate(self.shafts):
                if end in self.broken:
                    row.append(None)
                else:
                    row.append(self.stuck.get(shaft, int(shaft in lifted)))
            self.rows.append(tuple(row))
        self.gone = self.rows[-picks:]

    def undo(self, picks):
        self.gone = [self.rows.pop() for _ in range(picks)]

    def snap(self, end):
        self.broken.add(end)

    def mend(self, end, shaft):
        self.broken.remove(end)
        self.shafts[end] = shaft

    def stick(self, shaft, above):
        self.stuck[shaft] = above

    def free(self, shaft):
        del self.stuck[shaft]

    def cut(self):
        self.gone, self.rows = self.rows, []
        self.pieces.append(tuple(self.gone))

    def faults(self):
        return tuple([
            (pick, end) for pick, row in enumerate(self.rows) for end, part in enumerate(row)
            if part != self.cloth[pick % len(self.cloth)][end]
        ])

    def reason(self, word, told):
        """Return the first reason for which a deed cannot be done, or None."""
        number = lambda value, least, most: type(value) is int and least <= value <= most
        checks = {
            "weave": lambda picks: not number(picks, 1, 200) and "picks" or len(self.rows) + picks > 200 and "long",
            "undo": lambda picks: not number(picks, 1, len(self.rows)) and "picks",
            "break": lambda end: not (number(end, 0, len(self.shafts) - 1) and end not in self.broken) and "end",
            "mend": lambda end, shaft: not (number(end, 0, len(self.shafts) - 1) and end in self.broken) and "end"
            or not number(shaft, 0, 15) and "shaft",
            "stick": lambda shaft, above: not (number(shaft, 0, 15) and shaft not in self.stuck) and "shaft"
            or not number(above, 0, 1) and "side",
            "free": lambda shaft: not (number(shaft, 0, 15) and shaft in self.stuck) and "shaft",
            "cut": lambda: not self.rows and "empty",
        }
        return checks[word](*told) or None


def state(loom):
    return loom.woven(), loom.pieces(), loom.threading(), loom.faults(), loom.log()


def told_by(model, deeds):
    return tuple(model.rows), tuple(model.pieces), tuple(model.shafts), model.faults(), tuple(deeds)


def some_deed(chance, ends):
    """Return a deed, which is often one that can be done."""
    word = chance.choice(("weave", "weave", "weave", "undo", "break", "mend", "stick", "free", "cut"))
    end = chance.choice((*range(-1, ends + 1), True, None))
    shaft = chance.choice((0, 0, 1, 1, 2, 3, 15, 16, -1, False, "0"))
    told = {
        "weave": (chance.choice((1, 1, 2, 3, 7, 60, 0, 201, True)),), "undo": (chance.choice((1, 1, 2, 5, 0, None)),),
        "break": (end,), "mend": (end, shaft), "stick": (shaft, chance.choice((0, 1, 2, True))), "free": (shaft,),
        "cut": (),
    }
    return (word, *told[word])


class LoomTest(WeaveTest):
    def test_example(self):
        loom = Loom(((0, 1), ((0,), (1,)), ((0,), (1,))))
        told = loom.weave(1), loom.snap(0), loom.weave(2), loom.faults()
        self.assertEqual(told, (((1, 0),), None, ((None, 1), (None, 0)), ((1, 0), (2, 0))))

    def test_new_loom(self):
        self.assertEqual(state(Loom(DRAFT)), ((), (), (0, 1, 2, 0), (), ()))

    def test_goes_round(self):
        loom = Loom(DRAFT)
        self.assertEqual(loom.weave(2), CLOTH[:2])
        self.assertEqual(loom.weave(5), CLOTH[2:] + CLOTH + CLOTH[:1])
        self.assertEqual(loom.woven(), CLOTH * 2 + CLOTH[:1])
        self.assertEqual(loom.faults(), ())

    def test_goes_on_by_the_rows_on_the_loom(self):
        loom = Loom(DRAFT)
        loom.weave(4)
        self.assertEqual(loom.undo(2), (CLOTH[0], CLOTH[2]))
        self.assertEqual(loom.weave(1), CLOTH[2:])
        self.assertEqual(loom.cut(), CLOTH)
        self.assertEqual(loom.weave(1), CLOTH[:1])
        self.assertEqual((loom.woven(), loom.pieces()), (CLOTH[:1], (CLOTH,)))

    def test_broken_ends(self):
        loom = Loom(DRAFT)
        self.assertIsNone(loom.snap(3))
        self.assertEqual(loom.weave(1), ((1, 0, 0, None),))
        self.assertEqual(loom.threading(), (0, 1, 2, 0))
        self.assertIsNone(loom.mend(3, 2))
        self.assertEqual(loom.threading(), (0, 1, 2, 2))
        self.assertEqual(loom.weave(2), ((1, 1, 0, 0), (1, 0, 1, 1)))
        self.assertEqual(loom.faults(), ((0, 3), (1, 3)))
        self.assertEqual(loom.log(), (("break", 3), ("weave", 1), ("mend", 3, 2), ("weave", 2)))

    def test_mended_on_a_shaft_without_ends(self):
        loom = Loom(DRAFT)
        loom.snap(0)
        loom.mend(0, 15)
        self.assertEqual(loom.weave(1), ((0, 0, 0, 1),))
        loom.snap(0)
        loom.mend(0, 3)
        self.assertEqual(loom.weave(1), ((1, 1, 0, 1),))

    def test_sticking_shafts(self):
        loom = Loom(DRAFT)
        self.assertIsNone(loom.stick(0, 0))
        self.assertIsNone(loom.stick(1, 1))
        self.assertEqual(loom.weave(2), ((0, 1, 0, 0), (0, 1, 0, 0)))
        self.assertEqual(loom.faults(), ((0, 0), (0, 1), (0, 3), (1, 0), (1, 3)))
        loom.snap(0)
        self.assertEqual(loom.weave(1), ((None, 1, 1, 0),))
        self.assertIsNone(loom.free(0))
        self.assertIsNone(loom.free(1))
        loom.mend(0, 0)
        self.assertEqual(loom.weave(1), CLOTH[:1])
        self.assertEqual(loom.threading(), (0, 1, 2, 0))

    def test_most(self):
        loom = Loom(DRAFT)
        self.assertEqual(len(loom.weave(200)), 200)
        self.refuses(LoomError, "long", loom.weave, 1)
        self.refuses(LoomError, "picks", loom.weave, 201)
        self.assertEqual(len(loom.undo(1)), 1)
        self.refuses(LoomError, "long", loom.weave, 2)
        self.assertEqual(loom.weave(1), (CLOTH[199 % 3],))
        self.refuses(LoomError, "picks", loom.undo, 201)
        self.assertEqual(loom.undo(200), tuple([CLOTH[pick % 3] for pick in range(200)][::-1]))
        self.assertEqual(loom.woven(), ())

    def test_two_looms(self):
        one, other = Loom(DRAFT), Loom(DRAFT)
        one.weave(1)
        one.stick(0, 0)
        one.snap(1)
        self.assertEqual(state(other), state(Loom(DRAFT)))
        self.assertEqual(other.weave(3), CLOTH)

    def test_wrong_drafts(self):
        self.refuses(DraftError, "form", Loom, None)
        self.refuses(DraftError, "threading", Loom, ((), (), ()))
        self.refuses(DraftError, "treadling", Loom, ((0,), (), ()))
        self.stands_any_values(Loom, DRAFT)


class ReasonsTest(WeaveTest):
    def loom(self):
        loom = Loom(DRAFT)
        loom.weave(5)
        loom.snap(1)
        loom.stick(2, 1)
        return loom

    def refuses_deed(self, reason, deed, *told):
        loom = self.loom()
        before = state(loom)
        self.refuses(LoomError, reason, getattr(loom, deed), *told)
        self.assertEqual(state(loom), before)
        # What is not told by the state, the next row tells.
        self.assertEqual(loom.weave(1), self.loom().weave(1))

    def test_weave(self):
        for picks in (0, 201, *NO_NUMBERS):
            self.refuses_deed("picks", "weave", picks)
        for picks in (196, 200):
            self.refuses_deed("long", "weave", picks)

    def test_undo(self):
        for picks in (0, 6, *NO_NUMBERS):
            self.refuses_deed("picks", "undo", picks)
        self.refuses(LoomError, "picks", Loom(DRAFT).undo, 1)

    def test_snap(self):
        for end in (1, 4, *NO_NUMBERS):
            self.refuses_deed("end", "snap", end)

    def test_mend(self):
        for end in (0, 2, 4, *NO_NUMBERS):
            self.refuses_deed("end", "mend", end, 0)
            self.refuses_deed("end", "mend", end, None)
        for shaft in (16, *NO_NUMBERS):
            self.refuses_deed("shaft", "mend", 1, shaft)

    def test_stick(self):
        for shaft in (2, 16, *NO_NUMBERS):
            self.refuses_deed("shaft", "stick", shaft, 0)
            self.refuses_deed("shaft", "stick", shaft, 2)
        for above in (2, *NO_NUMBERS):
            self.refuses_deed("side", "stick", 0, above)

    def test_free(self):
        for shaft in (0, 1, 16, *NO_NUMBERS):
            self.refuses_deed("shaft", "free", shaft)

    def test_cut(self):
        loom = Loom(DRAFT)
        self.refuses(LoomError, "empty", loom.cut)
        loom.weave(2)
        loom.cut()
        self.refuses(LoomError, "empty", loom.cut)
        self.assertEqual((loom.pieces(), loom.log()), ((CLOTH[:2],), (("weave", 2), ("cut",))))

    def test_any_values(self):
        for value in ODD_VALUES:
            for deed, told in (
                ("weave", (value,)), ("undo", (value,)), ("snap", (value,)), ("mend", (value, value)),
                ("mend", (1, value)), ("stick", (value, value)), ("stick", (0, value)), ("free", (value,)),
            ):
                loom = self.loom()
                try:
                    getattr(loom, deed)(*told)
                except LoomError:
                    self.assertEqual(state(loom), state(self.loom()))


class ManyDeedsTest(WeaveTest):
    def test_beside_a_model(self):
        chance = random.Random(141)
        counts = {}
        for _ in range(60):
            ends, shafts = chance.randint(1, 4), chance.randint(1, 4)
            draft = (
                tuple([chance.randrange(shafts) for _ in range(ends)]),
                tuple([tuple(sorted(chance.sample(range(5), chance.randint(0, 3)))) for _ in range(3)]),
                tuple([tuple(sorted(chance.sample(range(3), chance.randint(0, 2)))) for _ in range(chance.randint(1, 4))]),
            )
            loom, deeds = Loom(draft), []
            for _ in range(chance.randint(5, 80)):
                word, *told = some_deed(chance, ends)
                reason = Model(draft, deeds).reason(word, told)
                counts[word, reason] = counts.get((word, reason), 0) + 1
                deed = getattr(loom, FORMS[word])
                if reason is None:
                    deeds.append((word, *told))
                    gone = tuple(Model(draft, deeds).gone) if word in ("weave", "undo", "cut") else None
                    self.assertEqual(deed(*told), gone)
                else:
                    self.refuses(LoomError, reason, deed, *told)
                self.assertEqual(state(loom), told_by(Model(draft, deeds), deeds))
                again = rewoven(draft, tuple(deeds))
                self.assertEqual(state(again), state(loom))
        self.assertEqual(len(counts), 17)
        self.assertGreater(min(counts.values()), 1)


class RewovenTest(WeaveTest):
    LOG = (
        ("weave", 4), ("undo", 1), ("break", 0), ("mend", 0, 1), ("stick", 2, 1), ("weave", 2), ("free", 2), ("cut",),
        ("weave", 1),
    )

    def stops(self, number, reason, log, draft=DRAFT):
        with self.assertRaises(LogError) as caught:
            rewoven(draft, log)
        self.assertIs(type(caught.exception), LogError)
        self.assertEqual((caught.exception.number, caught.exception.reason), (number, reason))

    def test_each_form(self):
        loom = rewoven(DRAFT, self.LOG)
        self.assertIsInstance(loom, Loom)
        self.assertEqual(loom.log(), self.LOG)
        self.assertEqual(loom.pieces(), (CLOTH + ((0, 0, 1, 1), (1, 1, 1, 1)),))
        self.assertEqual(loom.woven(), ((0, 0, 0, 1),))
        self.assertEqual(loom.threading(), (1, 1, 2, 0))
        self.assertEqual(state(rewoven(DRAFT, ())), state(Loom(DRAFT)))

    def test_first_entry_that_cannot_be_done(self):
        self.stops(0, "picks", (("weave", 0), ("weave", 0)))
        self.stops(1, "long", (("weave", 199), ("weave", 2), None))
        self.stops(1, "picks", (("weave", 2), ("undo", 3)))
        self.stops(2, "end", (("weave", 2), ("break", 3), ("break", 3)))
        self.stops(0, "end", (("mend", 0, 16),))
        self.stops(1, "shaft", (("break", 0), ("mend", 0, 16)))
        self.stops(1, "shaft", (("stick", 3, 0), ("stick", 3, 2)))
        self.stops(0, "side", (("stick", 3, True),))
        self.stops(0, "shaft", (("free", 3),))
        self.stops(0, "empty", (("cut",),))
        self.stops(9, "empty", (*self.LOG[:8], ("stick", 0, 0), ("cut",)))

    def test_whatever_follows_the_first_part(self):
        for value in ODD_VALUES:
            for entry in (("undo", value), ("mend", value, 0)):
                self.stops(0, "picks" if entry[0] == "undo" else "end", (entry,))

    def test_what_is_no_entry(self):
        wrong = [
            (), ("weave",), ("weave", 1, 1), ("undo",), ("undo", 1, 1), ("break",), ("break", 0, 0), ("mend", 0),
            ("mend", 0, 0, 0), ("stick", 0), ("stick", 0, 0, 0), ("free",), ("free", 0, 0), ("cut", 1), ("cut", ()),
            ("snap", 0), ("snap",), ("",), (None,), (("cut",),), ("Weave", 1), ("weave ", 1), ("", 1), (None, 1), (0, 1), (("weave",), 1), (("weave", 1),),
            ["weave", 1], "weave", "cut", None, True, 7,
        ]
        for entry in [*wrong, *ODD_VALUES]:
            self.stops(0, "entry", (entry,))
            self.stops(2, "entry", (("weave", 1), ("cut",), entry, ("weave", 0)))

    def test_most(self):
        log = (("weave", 1),) * 200
        self.assertEqual(rewoven(DRAFT, log).log(), log)
        self.refuses(ArgumentError, "log", rewoven, DRAFT, (*log, ("cut",)))
        self.refuses(ArgumentError, "log", rewoven, DRAFT, (None,) * 201)
        self.stops(0, "entry", (None,) * 200)
        loom = rewoven(DRAFT, log)
        loom.cut()
        self.assertEqual(len(loom.log()), 201)

    def test_wrong_arguments(self):
        for log in (None, 0, True, "", "cut", [], [("cut",)], {}):
            self.refuses(ArgumentError, "log", rewoven, DRAFT, log)
            self.refuses(DraftError, "form", rewoven, None, log)
        self.stands_any_values(rewoven, DRAFT, self.LOG)
