"""Points 14 to 17: drafts and the cloths that they weave."""

import itertools

from hangstogether.checks import is_draft
from hangstogether.drafts import drawn, needs, reordered, tidy, turned_draft, woven
from hangstogether.errors import ArgumentError, ClothError, DraftError, TooMany
from tests.helpers import WeaveTest, all_cloths, some_cloths

DRAFT = ((0, 3, 1, 3), ((0, 1), (), (1, 5), (3,)), ((0,), (), (0, 3), (1, 2)))
CLOTH = ((1, 0, 1, 0), (0, 0, 0, 0), (1, 1, 1, 1), (0, 0, 1, 0))
# 17 unlike columns in 5 picks, and 17 unlike rows of 5 ends.
WIDE = tuple([tuple([number >> bit & 1 for number in range(17)]) for bit in range(5)])
LONG = tuple(zip(*WIDE))


def identity(size):
    return tuple([tuple([int(pick == end) for end in range(size)]) for pick in range(size)])


class WovenTest(WeaveTest):
    def test_woven(self):
        self.assertEqual(woven(((0, 1), ((0,), (1,)), ((), (0, 1), (1,)))), ((0, 0), (1, 1), (0, 1)))
        self.assertEqual(woven(DRAFT), CLOTH)
        self.assertEqual(woven(((4,), (), ((),))), ((0,),))

    def test_shafts_without_ends_lift_nothing(self):
        self.assertEqual(woven(((0, 0), ((7,), (0, 7)), ((0,), (1,), (0, 1)))), ((0, 0), (1, 1), (1, 1)))

    def test_no_draft(self):
        self.refuses(DraftError, "form", woven, CLOTH)
        self.refuses(DraftError, "treadling", woven, (*DRAFT[:2], ((4,),)))


class NeedsAndDrawnTest(WeaveTest):
    def test_example(self):
        cloth = ((1, 1, 0), (0, 0, 1), (1, 1, 0))
        self.assertEqual(drawn(cloth), ((0, 0, 1), ((0,), (1,)), ((0,), (1,), (0,))))
        self.assertEqual(needs(cloth), (2, 2))

    def test_empty_rows_and_columns_count(self):
        self.assertEqual(needs(((0,),)), (1, 1))
        self.assertEqual(drawn(((0,),)), ((0,), ((),), ((0,),)))
        self.assertEqual(needs(((0, 1), (0, 0))), (2, 2))
        self.assertEqual(drawn(((0, 1), (0, 0))), ((0, 1), ((1,), ()), ((0,), (1,))))

    def test_all_small_cloths(self):
        for cloth in all_cloths(3, 3):
            draft = drawn(cloth)
            columns = list(zip(*cloth))
            self.assertTrue(is_draft(draft))
            self.assertEqual(woven(draft), cloth)
            self.assertEqual(needs(cloth), (len(set(columns)), len(set(cloth))))
            self.assertEqual(needs(cloth), (len(set(draft[0])), len(draft[1])))
            order = sorted(set(columns), key=columns.index)
            self.assertEqual(draft[0], tuple([order.index(column) for column in columns]))
            order = sorted(set(cloth), key=cloth.index)
            self.assertEqual(draft[2], tuple([(order.index(row),) for row in cloth]))

    def test_too_many(self):
        self.assertEqual(needs(WIDE), (17, 5))
        self.refuses(TooMany, "shafts", drawn, WIDE)
        self.refuses(TooMany, "treadles", drawn, LONG)
        self.refuses(TooMany, "shafts", drawn, identity(17))
        self.assertEqual(needs(identity(24)), (24, 24))
        self.assertEqual(woven(drawn(identity(16))), identity(16))
        self.assertEqual(drawn(((1,),) * 24), ((0,), ((0,),), ((0,),) * 24))
        self.assertEqual(drawn(((1,) * 24,)), ((0,) * 24, ((0,),), ((0,),)))

    def test_no_cloth(self):
        for function in (needs, drawn):
            self.refuses(ClothError, "form", function, None)
            self.refuses(ClothError, "crossing", function, ((True,),))


class TurnedTest(WeaveTest):
    def test_turned(self):
        for cloth in some_cloths(2, 60, 6):
            turned = woven(turned_draft(drawn(cloth)))
            for pick, end in itertools.product(range(len(turned)), range(len(turned[0]))):
                self.assertEqual(turned[pick][end], 1 - cloth[end][pick])
            self.assertEqual(turned_draft(drawn(cloth)), drawn(turned))

    def test_untidy_draft(self):
        new = tuple([tuple([1 - part for part in column]) for column in zip(*CLOTH)])
        self.assertEqual(turned_draft(DRAFT), drawn(new))

    def test_too_many(self):
        # 17 unlike picks of few treadles become 17 shafts, and 17 unlike ends need more shafts than there are.
        tieup = tuple([(shaft,) for shaft in range(5)])
        treadling = tuple([tuple([bit for bit in range(5) if number >> bit & 1]) for number in range(17)])
        self.refuses(TooMany, "shafts", turned_draft, (tuple(range(5)), tieup, treadling))
        self.refuses(DraftError, "form", turned_draft, ())


class ReorderedTest(WeaveTest):
    def test_reordered(self):
        # The shafts 2 and 4 have no end and are not lifted, but they are shafts.
        for shafts in itertools.islice(itertools.permutations(range(6)), 0, 720, 7):
            for treadles in itertools.permutations(range(4)):
                draft = reordered(DRAFT, shafts, treadles)
                self.assertTrue(is_draft(draft))
                self.assertEqual(woven(draft), CLOTH)
                self.assertEqual(draft[0], tuple([shafts[shaft] for shaft in DRAFT[0]]))
                for old, new in enumerate(treadles):
                    self.assertEqual(set(draft[1][new]), {shafts[shaft] for shaft in DRAFT[1][old]})
                for old, new in zip(DRAFT[2], draft[2]):
                    self.assertEqual(set(new), {treadles[treadle] for treadle in old})

    def test_example(self):
        self.assertEqual(
            reordered(DRAFT, (5, 4, 3, 2, 1, 0), (1, 2, 3, 0)),
            ((5, 2, 4, 2), ((2,), (4, 5), (), (0, 4)), ((1,), (), (0, 1), (2, 3))),
        )

    def test_wrong_orders(self):
        right = (0, 1, 2, 3, 4, 5), (0, 1, 2, 3)
        wrong = ((), None, 0, "012345", list(right[0]), (0, 1, 2, 3, 4), (0, 1, 2, 3, 4, 5, 6), (0, 1, 2, 3, 4, 4),
                 (1, 2, 3, 4, 5, 6), (False, True, 2, 3, 4, 5), ("0", 1, 2, 3, 4, 5), ((0,), 1, 2, 3, 4, 5))
        for shafts in wrong:
            self.refuses(ArgumentError, "shafts", reordered, DRAFT, shafts, right[1])
            self.refuses(ArgumentError, "shafts", reordered, DRAFT, shafts, None)
        for treadles in (*wrong, (0, 1, 2), (0, 1, 2, 2), (0, 1, 2, 4), [0, 1, 2, 3], (0, True, 2, 3)):
            self.refuses(ArgumentError, "treadles", reordered, DRAFT, right[0], treadles)
        self.refuses(DraftError, "form", reordered, CLOTH, (), ())
        self.stands_any_values(reordered, DRAFT, *right)

    def test_number_of_shafts(self):
        # The greatest shaft stands in the threading or in the tie-up.
        draft = ((2, 0), ((0,), ()), ((0,),))
        self.assertEqual(reordered(draft, (1, 2, 0), (1, 0)), ((0, 1), ((), (1,)), ((1,),)))
        self.refuses(ArgumentError, "shafts", reordered, draft, (1, 0), (1, 0))
        self.assertEqual(reordered(((0,), (), ((),)), (0,), ()), ((0,), (), ((),)))


class TidyTest(WeaveTest):
    def test_tidy(self):
        self.assertEqual(
            tidy(((9, 3, 9), ((3,), (1, 9), (2,), (3, 9, 12)), ((2,), (0, 3), ()))),
            ((1, 0, 1), ((0,), (), (0, 1)), ((1,), (0, 2), ())),
        )
        self.assertEqual(tidy(((5,), ((5,),), ((),))), ((0,), (), ((),)))
        for draft in (DRAFT, ((15, 0), ((15,), (0, 7), (7,)), ((1,), (2,)))):
            self.assertEqual(woven(tidy(draft)), woven(draft))
            self.assertEqual(tidy(tidy(draft)), tidy(draft))
        for cloth in some_cloths(3, 30, 6):
            self.assertEqual(tidy(drawn(cloth)), drawn(cloth))

    def test_no_draft(self):
        self.refuses(DraftError, "tieup", tidy, ((0,), ((1, 0),), ((0,),)))
