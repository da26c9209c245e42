"""Points 18 to 22: treadles pressed together."""

import itertools

from hangstogether.checks import is_draft
from hangstogether.drafts import woven
from hangstogether.errors import ClothError, DraftError, PaperError, TooMany
from hangstogether.pressing import accept_treadles, fewest_treadles
from hangstogether.words import read_cloth
from tests.helpers import WeaveTest, all_cloths, answer_or_error, some_cloths, variants

STEPS = ((1, 0, 0), (1, 1, 0), (1, 1, 1))
# Two rectangles are enough for the three unlike rows, but the bound of no rectangles is two for one of them.
OVER = ((1, 0), (0, 1), (1, 1))


def without_one(size):
    """Return a cloth in which each pick lies above one end alone."""
    return tuple([tuple([int(pick != end) for end in range(size)]) for pick in range(size)])


class Slow:
    """What points 18 to 20 say, word by word, with sets of cells."""

    def __init__(self, cloth):
        columns = list(zip(*cloth))
        firsts = [end for end, column in enumerate(columns) if column not in columns[:end]]
        rows = [row for pick, row in enumerate(cloth) if row not in cloth[:pick]]
        self.lifts = [{shaft for shaft, end in enumerate(firsts) if row[end]} for row in rows]
        self.cells = [(row, shaft) for row, shafts in enumerate(self.lifts) for shaft in sorted(shafts)]
        commons = set()
        for count in range(1, len(rows) + 1):
            for some in itertools.combinations(self.lifts, count):
                commons.add(tuple(sorted(set.intersection(*some))))
        self.ties = sorted(commons - {()})
        self.rectangles = [
            {(row, shaft) for row, shafts in enumerate(self.lifts) if shafts >= set(ties) for shaft in ties}
            for ties in self.ties
        ]

    def left(self, row):
        return [cell for cell in self.cells if not any(cell in self.rectangles[number] for number in row)]

    def are_apart(self, one, other):
        return not (other[1] in self.lifts[one[0]] and one[1] in self.lifts[other[0]])

    def bound(self, row):
        found = []
        for cell in self.left(row):
            if all(self.are_apart(cell, other) for other in found):
                found.append(cell)
        return len(row) + len(found)

    def longer(self, row):
        first = self.left(row)[0]
        return [(*row, number) for number, cells in enumerate(self.rectangles) if first in cells]

    def paper(self, row, number):
        if self.bound(row) > number:
            return ()
        return tuple([self.paper(further, number) for further in self.longer(row)])

    def fewest(self):
        for number in range(len(self.rectangles) + 1):
            for some in itertools.combinations(range(len(self.rectangles)), number):
                if not self.left(some):
                    return number


class FewestTest(WeaveTest):
    def check(self, cloth):
        slow = Slow(cloth)
        number, draft, paper = fewest_treadles(cloth)
        self.assertEqual(number, slow.fewest())
        self.assertTrue(is_draft(draft))
        self.assertEqual(woven(draft), cloth)
        self.assertEqual(len(draft[1]), number)
        self.assertEqual(paper, slow.paper((), number - 1))
        self.assertIsNone(accept_treadles(cloth, (number, draft, paper)))

    def test_small_cloths(self):
        for cloth in all_cloths(2, 3) + all_cloths(3, 3):
            self.check(cloth)

    def test_some_larger_cloths(self):
        for cloth in some_cloths(4, 120, 5):
            self.check(cloth)

    def test_no_cells(self):
        self.assertEqual(fewest_treadles(((0, 0), (0, 0))), (0, ((0, 0), (), ((), ())), ()))

    def test_fewer_than_rows(self):
        number, draft, _ = fewest_treadles(OVER)
        self.assertEqual(number, 2)
        self.assertEqual(draft[2], ((0,), (1,), (0, 1)) if draft[1] == ((0,), (1,)) else ((1,), (0,), (0, 1)))

    def test_paper_with_rows(self):
        # The bound of no rectangles is less than the fewest ones, so the paper goes on to further rows.
        found = [cloth for cloth in some_cloths(5, 300, 5) if fewest_treadles(cloth)[2] != ()]
        self.assertTrue(found)
        for cloth in found:
            self.check(cloth)

    def test_no_cloth(self):
        self.refuses(ClothError, "picks", fewest_treadles, ())
        self.refuses(ClothError, "ends", accept_treadles, ((),), None)


class TooManyTest(WeaveTest):
    def test_ties(self):
        self.refuses(TooMany, "ties", fewest_treadles, without_one(8))
        # 255 rows of shafts, the empty one among them; with 7 shafts there are 127.
        self.assertEqual(len(Slow(without_one(7)).ties), 126)
        self.refuses(TooMany, "choices", fewest_treadles, without_one(7))

    def test_just_too_many_ties(self):
        # 200 ties and the empty row make 201; then 201 ties without the empty row; then 200 ones.
        with_empty = read_cloth(
            "(cloth #######---## #######--### ##-#--####-# #-#######-#- --###--##-#- ---####-###- ###-#-######"
            " ######-###-- ####-####### -#--#-#-#-## #--##--#####)"
        )
        self.assertEqual(len(Slow(with_empty).ties), 200)
        self.refuses(TooMany, "ties", fewest_treadles, with_empty)
        many = read_cloth(
            "(cloth #####-###### #-#-#####-#- ##-########- ###--#####-# --####-##### -########--# --#-########"
            " ##-#-#####-- #--####-#### ######--#--#)"
        )
        self.assertEqual(len(Slow(many).ties), 201)
        self.refuses(TooMany, "ties", fewest_treadles, many)
        enough = read_cloth(
            "(cloth -###-##-#- #####-#### ########## ----#####- -#####--#- ####-###-# ##-####### #-####-###"
            " ###-##--#- ###-###--# #-######## -###-##-##)"
        )
        self.assertEqual(len(Slow(enough).ties), 199)
        self.refuses(TooMany, "choices", fewest_treadles, enough)

    def test_shafts(self):
        diagonal = tuple([tuple([int(pick == end) for end in range(17)]) for pick in range(17)])
        self.refuses(TooMany, "shafts", fewest_treadles, diagonal)
        smaller = tuple([row[:16] for row in diagonal])
        self.assertEqual(fewest_treadles(smaller)[0], 16)

    def test_ties_ahead_of_shafts(self):
        cloth = tuple([row + tuple([int(pick == end) for end in range(12)]) for pick, row in enumerate(without_one(8))])
        self.refuses(TooMany, "ties", fewest_treadles, cloth)

    def test_shafts_ahead_of_choices(self):
        block = without_one(7)
        cloth = tuple([row + (0,) * 11 for row in block])
        cloth += tuple([(0,) * 7 + tuple([int(pick == end) for end in range(11)]) for pick in range(11)])
        self.refuses(TooMany, "shafts", fewest_treadles, cloth)
        self.refuses(TooMany, "choices", fewest_treadles, block)

    def counts(self, cloth):
        """Return how many rows that leave a cell have a bound up to the fewest treadles.

        The second number is of those which do not begin with a row that has a greater bound.
        """
        slow = Slow(cloth)
        number = slow.fewest()
        kept = {}

        def counts_from(row):
            left = tuple(slow.left(row))
            if not left or len(row) >= number:
                return 0, 0
            if (len(row), left) not in kept:
                counts = [counts_from(further) for further in slow.longer(row)]
                fits = int(slow.bound(row) <= number)
                every = fits + sum([count for count, _ in counts])
                kept[len(row), left] = every, fits * (1 + sum([count for _, count in counts]))
            return kept[len(row), left]

        return counts_from(())

    def test_just_too_many_choices(self):
        enough = read_cloth("(cloth -###--## #-###--# ###--### ######-- ##---###)")
        self.assertEqual(self.counts(enough), (400, 400))
        number, draft, paper = fewest_treadles(enough)
        self.assertIsNone(accept_treadles(enough, (number, draft, paper)))
        many = read_cloth("(cloth #####-## ###-##-# -##-###- ##-#-##- #--#####)")
        self.assertEqual(self.counts(many), (401, 401))
        self.refuses(TooMany, "choices", fewest_treadles, many)

    def test_rows_behind_one_with_a_greater_bound_count(self):
        cloth = read_cloth("(cloth ##--## -#-### ##-#-# ###-#- #--###)")
        every, first = self.counts(cloth)
        self.assertGreater(every, 400)
        self.assertEqual(first, 396)
        self.refuses(TooMany, "choices", fewest_treadles, cloth)
        # The same with few enough of them.
        cloth = read_cloth("(cloth -##--#- ##--#-# #-##--# --#-### ###---# ###-#--)")
        every, first = self.counts(cloth)
        self.assertLess(first, every)
        self.assertLessEqual(every, 400)
        self.assertIsNone(accept_treadles(cloth, fewest_treadles(cloth)))

    def test_choices_of_some_cloths(self):
        for cloth in some_cloths(29, 60, 6):
            too_many = self.counts(cloth)[0] > 400
            self.assertEqual(answer_or_error(fewest_treadles, cloth) == (TooMany, "choices"), too_many)

    def test_accept_looks_at_any_number_of_choices(self):
        many = read_cloth("(cloth #####-## ###-##-# -##-###- ##-#-##- #--#####)")
        slow = Slow(many)
        number = slow.fewest()
        columns = list(zip(*many))
        firsts = sorted(set(columns), key=columns.index)
        threading = tuple([firsts.index(column) for column in columns])
        some = [row for row in itertools.combinations(range(len(slow.ties)), number) if not slow.left(row)][0]
        tieup = tuple([slow.ties[choice] for choice in some])
        treadling = tuple([
            tuple([treadle for treadle, ties in enumerate(tieup) if slow.lifts[pick] >= set(ties)])
            for pick in range(len(many))
        ])
        told = number, (threading, tieup, treadling), slow.paper((), number - 1)
        self.assertIsNone(accept_treadles(many, told))
        self.refuses(PaperError, "paper", accept_treadles, many, (*told[:2], ()))


class AcceptTest(WeaveTest):
    def test_form(self):
        right = fewest_treadles(STEPS)
        for told in (None, 3, "abc", (), right[:2], (*right, ()), list(right), [right]):
            self.refuses(PaperError, "form", accept_treadles, STEPS, told)
        for number in (-1, 17, True, "3", None, (3,), 10 ** 30):
            self.refuses(PaperError, "form", accept_treadles, STEPS, (number, None, None))
        self.refuses(ClothError, "form", accept_treadles, None, None)

    def test_draft_errors(self):
        right = fewest_treadles(STEPS)
        self.refuses(DraftError, "form", accept_treadles, STEPS, (3, None, None))
        self.refuses(DraftError, "threading", accept_treadles, STEPS, (3, ((16,), (), ()), right[2]))
        self.refuses(DraftError, "tieup", accept_treadles, STEPS, (16, (right[1][0], ((1, 0),), ()), ()))

    def test_draft(self):
        number, draft, paper = fewest_treadles(STEPS)
        other = fewest_treadles(OVER)[1]
        self.refuses(PaperError, "draft", accept_treadles, STEPS, (number, other, paper))
        self.refuses(PaperError, "draft", accept_treadles, STEPS, (number + 1, draft, None))
        self.refuses(PaperError, "draft", accept_treadles, STEPS, (number - 1, draft, None))

    def test_ties(self):
        cloth = without_one(8)
        draft = tuple(range(8)), tuple([tuple([s for s in range(8) if s != t]) for t in range(8)]), tuple(
            [(t,) for t in range(8)]
        )
        self.assertEqual(woven(draft), cloth)
        self.refuses(PaperError, "draft", accept_treadles, cloth, (7, draft, ()))
        self.refuses(TooMany, "ties", accept_treadles, cloth, (8, draft, ()))
        self.refuses(TooMany, "ties", accept_treadles, cloth, (8, draft, None))

    def test_draft_is_free(self):
        number, (threading, tieup, treadling), paper = fewest_treadles(OVER)
        turned = tuple([tuple([1 - treadle for treadle in pressed][::-1]) for pressed in treadling])
        self.assertIsNone(accept_treadles(OVER, (number, (threading, tieup[::-1], turned), paper)))
        self.assertIsNone(accept_treadles(OVER, (2, ((9, 4), ((4,), (9,)), ((1,), (0,), (0, 1))), paper)))

    def test_more_treadles_than_needed(self):
        draft = ((0, 1), ((0,), (1,), (0, 1)), ((0,), (1,), (2,)))
        for paper in ((), ((),), ((), ()), (((),),), (((), ()), ((), ()))):
            self.refuses(PaperError, "paper", accept_treadles, OVER, (3, draft, paper))

    def test_paper_one_thing_changed(self):
        cloths = [cloth for cloth in some_cloths(6, 300, 5) if fewest_treadles(cloth)[2] != ()][:4]
        self.assertEqual(len(cloths), 4)
        for cloth in cloths + [((0,),), STEPS]:
            number, draft, paper = fewest_treadles(cloth)
            for other in variants(paper):
                self.refuses(PaperError, "paper", accept_treadles, cloth, (number, draft, other))

    def test_one_thing_changed(self):
        for cloth in (STEPS, OVER, ((0,),), ((1, 0, 1), (0, 1, 1))):
            right = fewest_treadles(cloth)
            for told in variants(right):
                if answer_or_error(accept_treadles, cloth, told) is None:
                    self.assertEqual(woven(told[1]), cloth)
                    self.assertEqual((told[0], told[2]), (right[0], right[2]))
                    self.assertEqual(len(told[1][1]), right[0])

    def test_any_values(self):
        self.stands_any_values(accept_treadles, STEPS, fewest_treadles(STEPS))
        self.stands_any_values(fewest_treadles, STEPS)
        number, draft, _ = fewest_treadles(STEPS)
        self.stands_any_values(lambda told: accept_treadles(STEPS, (number, draft, told)), ())
