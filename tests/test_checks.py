"""Points 1 to 4 and 7 to 9: what is a cloth, and what is a draft."""

from hangstogether.checks import check_cloth, check_draft, is_cloth, is_draft
from hangstogether.errors import ClothError, DraftError
from tests.helpers import ODD_VALUES, WeaveTest, deep

DRAFT = ((0, 1, 15), ((0,), (), (1, 15)), ((0, 2), ()))


class ClothTest(WeaveTest):
    def right(self, cloth):
        self.assertIsNone(check_cloth(cloth))
        self.assertIs(is_cloth(cloth), True)

    def wrong(self, reason, cloth):
        self.refuses(ClothError, reason, check_cloth, cloth)
        self.assertIs(is_cloth(cloth), False)

    def test_right_ones(self):
        for cloth in (((0,),), ((1,),), ((1, 0, 0), (0, 1, 1)), ((1,) * 24,) * 24, ((0,),) * 24, ((0,) * 24,)):
            self.right(cloth)

    def test_form(self):
        wrong = (None, True, 0, "", "cloth", [], [(1,)], ([1],), ((1,), [0]), (1,), ((1,), 0), ((1,), "1"), (None,))
        for cloth in wrong:
            self.wrong("form", cloth)

    def test_picks(self):
        for cloth in ((), ((1,),) * 25, ((),) * 25, ((1,),) * 20000):
            self.wrong("picks", cloth)

    def test_ends(self):
        for cloth in (((),), ((), (1,)), ((1,) * 25,), ((1,), (1, 0)), ((1, 0), (1,)), ((1, 0), ()), ((0,) * 20000,)):
            self.wrong("ends", cloth)

    def test_crossing(self):
        for part in (True, False, 2, -1, "1", "#", None, (), (1,), [1], deep(90), 10 ** 30):
            self.wrong("crossing", ((1, 0), (0, part)))

    def test_order_of_reasons(self):
        self.wrong("form", ((1,),) * 25 + (0,))
        self.wrong("form", ((True, 2), (1,), 1))
        self.wrong("picks", ((True,), (1, 2)) * 13)
        self.wrong("ends", ((True,), (1, 0)))
        self.wrong("ends", ((2,) * 25, (1,)))


class DraftTest(WeaveTest):
    def right(self, draft):
        self.assertIsNone(check_draft(draft))
        self.assertIs(is_draft(draft), True)

    def wrong(self, reason, draft):
        self.refuses(DraftError, reason, check_draft, draft)
        self.assertIs(is_draft(draft), False)

    def wrong_part(self, reason, place, part):
        self.wrong(reason, (*DRAFT[:place], part, *DRAFT[place + 1:]))

    def test_right_ones(self):
        self.right(DRAFT)
        self.right(((0,), (), ((),)))
        self.right(((15,) * 24, (tuple(range(16)),) * 16, (tuple(range(16)),) * 24))

    def test_form(self):
        for draft in (None, True, 3, "abc", [], list(DRAFT), (), DRAFT[:2], (*DRAFT, ()), deep()):
            self.wrong("form", draft)
        for place in range(3):
            for part in (None, 0, "0", [0], list(DRAFT[place])):
                self.wrong_part("form", place, part)

    def test_threading(self):
        for part in ((), (0,) * 25, (16,), (-1,), (0, True), (False,), ("0",), (None,), ((0,),), (0,) * 19000):
            self.wrong_part("threading", 0, part)

    def test_tieup(self):
        wrong = (
            ((),) * 17, (0,), ([0],), ((0, 0),), ((1, 0),), ((16,),), ((-1,),), ((True,),), (("0",),), ((None,),),
            ((0,), ((1,),)), (tuple(range(17)),), (None,), ("01",), ((),) * 19000,
        )
        for part in wrong:
            self.wrong_part("tieup", 1, part)

    def test_treadling(self):
        wrong = (
            (), ((),) * 25, (0,), ([0],), ((0, 0),), ((2, 0),), ((3,),), ((-1,),), ((False,),), (("0",),),
            ((0, 1, 2, 3),), (None,), ((),) * 19000,
        )
        for part in wrong:
            self.wrong_part("treadling", 2, part)

    def test_no_treadle_to_press(self):
        self.wrong("treadling", ((0,), (), ((0,),)))

    def test_order_of_reasons(self):
        self.wrong("form", ((), ((1, 0),), 0))
        self.wrong("threading", ((), ((1, 0),), ()))
        self.wrong("threading", ((16,), ((1, 0),), ()))
        self.wrong("tieup", ((0,), ((1, 0),), ()))
        self.wrong("tieup", ((0,), ((),) * 17, ((17,),)))


class AnyValueTest(WeaveTest):
    def test_any_values(self):
        for function in (check_cloth, check_draft):
            self.stands_any_values(function, ((1,),))
        right = [value for value in ODD_VALUES if is_cloth(value)]
        self.assertEqual(right, [((1,),), ((0, 0), (0, 0)), ((1, 0), (0, 1)), ((0,),)])
        self.assertEqual([value for value in ODD_VALUES if is_draft(value)], [])
