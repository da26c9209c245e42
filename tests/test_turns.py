"""Points 49 to 54: turns."""

import itertools
import random

from hangstogether.errors import ArgumentError, ClothError
from hangstogether.families import satin
from hangstogether.turns import accept_compare, classes, compare, is_even, normal, reduced, symmetries, turned
from tests.helpers import WeaveTest, all_cloths, some_cloths, threads_in, variants

PLAIN = ((1, 0), (0, 1))
CLOTH = ((1, 1, 0), (0, 0, 0))
NO_WAY = (0, 0, 0, 0)
WAYS = list(itertools.product((0, 1), repeat=4))


def repeated(cloth, down, aside):
    return tuple([row * aside for row in cloth] * down)


def places_behind(cloth, way, picks, ends):
    """Return for each crossing the place to which a turn brings it."""
    found = {}
    down, aside = len(cloth), len(cloth[0])
    for pick, end in itertools.product(range(down), range(aside)):
        row = down - 1 - pick if way[1] else pick
        column = aside - 1 - end if way[0] else end
        if way[2]:
            found[pick, end] = (column + picks) % aside, (row + ends) % down
        else:
            found[pick, end] = (row + picks) % down, (column + ends) % aside
    return found


def behind(cloth, turn):
    way, picks, ends = turn
    places = places_behind(cloth, way, picks, ends)
    parts = {place: cloth[pick][end] ^ way[2] ^ way[3] for (pick, end), place in places.items()}
    down = 1 + max([row for row, _ in parts])
    aside = 1 + max([column for _, column in parts])
    return tuple([tuple([parts[row, column] for column in range(aside)]) for row in range(down)])


def all_turns(cloth):
    found = []
    for way in WAYS:
        sizes = (len(cloth[0]), len(cloth)) if way[2] else (len(cloth), len(cloth[0]))
        found += [(way, picks, ends) for picks in range(sizes[0]) for ends in range(sizes[1])]
    assert found == sorted(found)
    return found


def least(cloth):
    """Return the least repeat, by trying all sizes on a cloth that stands beside itself."""
    wide = repeated(cloth, 2, 2)
    down, aside = len(cloth), len(cloth[0])
    picks = min([size for size in range(1, down + 1) if wide[size:size + down] == wide[:down]])
    ends = min([
        size for size in range(1, aside + 1) if all([row[size:size + aside] == row[:aside] for row in wide])
    ])
    return tuple([row[:ends] for row in cloth[:picks]])


def best_form(cloth):
    small = least(cloth)
    turns = all_turns(small)
    form = min([behind(small, turn) for turn in turns], key=lambda rows: (len(rows), rows))
    return form, [turn for turn in turns if behind(small, turn) == form][0]


def comparison(first, second):
    one, other = least(first), least(second)
    for turn in all_turns(one):
        if behind(one, turn) == other:
            return "same", turn
    return "unlike", best_form(first)[0], best_form(second)[0]


def carried(cloth, turn, thread):
    """Return the thread on which all crossings of a thread come to lie."""
    places = places_behind(cloth, *turn)
    kind, number = thread
    mine = [place for (pick, end), place in places.items() if number == (end if kind == "end" else pick)]
    goal = kind if not turn[0][2] else {"end": "pick", "pick": "end"}[kind]
    numbers = {column if goal == "end" else row for row, column in mine}
    assert len(numbers) == 1
    return goal, min(numbers)


class ReducedTest(WeaveTest):
    def test_repeats(self):
        for cloth in (((1,),), PLAIN, CLOTH, ((1, 0, 0), (0, 1, 0), (0, 0, 1)), ((1, 0),), ((1,), (0,))):
            for down, aside in ((1, 1), (3, 1), (1, 4), (2, 5)):
                self.assertEqual(reduced(repeated(cloth, down, aside)), cloth)
        self.assertEqual(reduced(((0,) * 24,) * 24), ((0,),))
        self.assertEqual(reduced(((1, 0, 1), (1, 0, 1))), ((1, 0, 1),))
        self.assertEqual(reduced(((1, 1), (0, 0), (1, 1))), ((1,), (0,), (1,)))

    def test_rows_are_not_moved_ends(self):
        self.assertEqual(reduced(PLAIN), PLAIN)
        self.assertEqual(reduced(((1, 0, 1, 0), (0, 1, 0, 1))), PLAIN)

    def test_some_cloths(self):
        chance = random.Random(1)
        for cloth in some_cloths(31, 200, 6):
            for told in (cloth, repeated(cloth, chance.randint(1, 4), chance.randint(1, 4))):
                self.assertEqual(reduced(told), least(cloth))


class TurnedTest(WeaveTest):
    def test_ways_alone(self):
        expected = {
            (0, 0, 0, 0): CLOTH,
            (1, 0, 0, 0): ((0, 1, 1), (0, 0, 0)),
            (0, 1, 0, 0): ((0, 0, 0), (1, 1, 0)),
            (1, 1, 0, 0): ((0, 0, 0), (0, 1, 1)),
            (0, 0, 1, 0): ((0, 1), (0, 1), (1, 1)),
            (1, 0, 1, 0): ((1, 1), (0, 1), (0, 1)),
            (0, 1, 1, 0): ((1, 0), (1, 0), (1, 1)),
            (1, 1, 1, 0): ((1, 1), (1, 0), (1, 0)),
        }
        for way, rows in list(expected.items()):
            self.assertEqual(turned(CLOTH, (way, 0, 0)), rows)
            other = tuple([tuple([1 - part for part in row]) for row in rows])
            self.assertEqual(turned(CLOTH, ((*way[:3], 1), 0, 0)), other)

    def test_moves(self):
        self.assertEqual(turned(CLOTH, (NO_WAY, 0, 1)), ((0, 1, 1), (0, 0, 0)))
        self.assertEqual(turned(CLOTH, (NO_WAY, 1, 2)), ((0, 0, 0), (1, 0, 1)))
        self.assertEqual(turned(CLOTH, (NO_WAY, -1, -1)), ((0, 0, 0), (1, 0, 1)))
        self.assertEqual(turned(CLOTH, (NO_WAY, 1000, 1000)), turned(CLOTH, (NO_WAY, 0, 1)))
        self.assertEqual(turned(CLOTH, (NO_WAY, -1000, -1000)), turned(CLOTH, (NO_WAY, 0, 2)))
        self.assertEqual(turned(repeated(CLOTH, 2, 1), (NO_WAY, 1, 0)), repeated(CLOTH[::-1], 2, 1))

    def test_some_turns(self):
        chance = random.Random(2)
        for cloth in some_cloths(32, 300, 6) + [repeated(CLOTH, 12, 8)]:
            for _ in range(5):
                steps = [chance.choice((chance.randint(-9, 9), chance.randint(-1000, 1000))) for _ in range(2)]
                turn = (chance.choice(WAYS), *steps)
                self.assertEqual(turned(cloth, turn), behind(cloth, turn))

    def test_wrong_turns(self):
        wrong = [other for other in variants(((0, 1, 0, 1), 3, 2)) if other not in (
            ((0, 1, 0, 1), 4, 2), ((0, 1, 0, 1), 2, 2), ((0, 1, 0, 1), 3, 3), ((0, 1, 0, 1), 3, 1),
            ((1, 1, 0, 1), 3, 2), ((0, 0, 0, 1), 3, 2), ((0, 1, 1, 1), 3, 2), ((0, 1, 0, 0), 3, 2),
            ((1, 0, 1, 0), 3, 2),
        )]
        self.assertGreater(len(wrong), 40)
        wrong += [
            (NO_WAY, 1001, 0), (NO_WAY, 0, -1001), (NO_WAY, True, 0), (NO_WAY, 0, False), ((0, 0, 0, True), 0, 0),
            (NO_WAY, "0", 0), ((0, 0, 0, 2), 0, 0), ((0, -1, 0, 0), 0, 0), ("0000", 0, 0), (list(NO_WAY), 0, 0),
        ]
        for turn in wrong:
            self.refuses(ArgumentError, "turn", turned, CLOTH, turn)
        self.refuses(ClothError, "form", turned, None, None)
        self.refuses(ClothError, "crossing", turned, ((2,),), None)
        self.stands_any_values(turned, CLOTH, (NO_WAY, 0, 0))


class NormalTest(WeaveTest):
    def test_example(self):
        self.assertEqual(normal(PLAIN * 2), (((0, 1), (1, 0)), (NO_WAY, 0, 1)))

    def test_fewest_rows(self):
        self.assertEqual(normal(((1,), (1,), (0,))), (((0, 0, 1),), ((0, 0, 1, 0), 0, 0)))
        self.assertEqual(normal(((1,),)), (((0,),), ((0, 0, 0, 1), 0, 0)))

    def test_small_cloths(self):
        for picks, ends in ((1, 1), (1, 2), (2, 1), (2, 2), (1, 4), (4, 1), (2, 3), (3, 2), (2, 4)):
            for cloth in all_cloths(picks, ends):
                self.assertEqual(normal(cloth), best_form(cloth))

    def test_some_cloths(self):
        for cloth in some_cloths(33, 60, 6):
            form, turn = normal(cloth)
            self.assertEqual((form, turn), best_form(cloth))
            self.assertEqual(turned(reduced(cloth), turn), form)

    def test_greatest_cloth(self):
        chance = random.Random(3)
        cloth = tuple([tuple([chance.randint(0, 1) for _ in range(24)]) for _ in range(24)])
        form, turn = normal(cloth)
        self.assertEqual(behind(cloth, turn), form)
        for way in WAYS:
            self.assertEqual(normal(turned(cloth, (way, 17, -5)))[0], form)


class CompareTest(WeaveTest):
    def test_example(self):
        self.assertEqual(compare(PLAIN, ((1, 1), (0, 0))), ("unlike", ((0, 1), (1, 0)), ((0, 1),)))

    def test_same(self):
        self.assertEqual(compare(PLAIN, PLAIN), ("same", (NO_WAY, 0, 0)))
        self.assertEqual(compare(PLAIN, repeated(PLAIN[::-1], 2, 3)), ("same", (NO_WAY, 0, 1)))
        self.assertEqual(compare(((1,),), ((0,),)), ("same", ((0, 0, 0, 1), 0, 0)))
        self.assertEqual(compare(((1,), (0,), (0,)), ((1, 1, 0),)), ("same", ((0, 0, 1, 0), 0, 2)))

    def test_small_cloths(self):
        for picks, ends in ((1, 3), (2, 2), (3, 1)):
            for first in all_cloths(picks, ends):
                for second in all_cloths(2, 2) + all_cloths(1, 3):
                    told = compare(first, second)
                    self.assertEqual(told, comparison(first, second))
                    self.assertIsNone(accept_compare(first, second, told))

    def test_some_cloths(self):
        chance = random.Random(4)
        for cloth in some_cloths(34, 60, 5):
            turn = (chance.choice(WAYS), chance.randint(0, 4), chance.randint(0, 4))
            other = turned(cloth, turn)
            if chance.randint(0, 1):
                row = list(other[0])
                row[0] = 1 - row[0]
                other = (tuple(row), *other[1:])
            self.assertEqual(compare(cloth, other), comparison(cloth, other))
            self.assertIsNone(accept_compare(cloth, other, compare(cloth, other)))

    def test_wrong_cloths(self):
        for function in (compare, lambda first, second: accept_compare(first, second, None)):
            self.refuses(ClothError, "form", function, 5, ())
            self.refuses(ClothError, "picks", function, PLAIN, ())
            self.refuses(ClothError, "crossing", function, ((True,),), ())
        self.stands_any_values(compare, PLAIN, CLOTH)
        for function in (reduced, normal, symmetries, classes, is_even):
            self.refuses(ClothError, "ends", function, ((1,), (0, 1)))
            self.stands_any_values(function, PLAIN)


class AcceptTest(WeaveTest):
    def reason(self, first, second, told):
        if not isinstance(told, tuple) or not told or (len(told), told[0]) not in ((2, "same"), (3, "unlike")):
            return "form"
        if told[0] == "unlike":
            forms = best_form(first)[0], best_form(second)[0]
            return None if forms[0] != forms[1] and repr(told[1:]) == repr(forms) else "forms"
        turn = told[1]
        if type(turn) is not tuple or len(turn) != 3 or type(turn[0]) is not tuple or turn[0] not in WAYS:
            return "turn"
        if {type(part) for part in turn[0] + turn[1:]} != {int} or max(map(abs, turn[1:])) > 1000:
            return "turn"
        return None if behind(least(first), turn) == least(second) else "turn"

    def test_changed_answers(self):
        for first, second in ((PLAIN, PLAIN * 2), (CLOTH, CLOTH[::-1]), (CLOTH, PLAIN), (((1, 1, 0),), CLOTH)):
            for told in variants(compare(first, second)):
                self.judges(self.reason(first, second, told), accept_compare, first, second, told)

    def test_any_turn(self):
        second = turned(CLOTH, ((1, 0, 1, 1), 2, 1))
        right = 0
        for way in WAYS:
            for picks, ends in itertools.product((-1000, -4, 0, 1, 2, 999, 1000, 1001), repeat=2):
                told = ("same", (way, picks, ends))
                reason = self.reason(CLOTH, second, told)
                right += reason is None
                self.judges(reason, accept_compare, CLOTH, second, told)
        self.assertGreater(right, 8)

    def test_forms_of_like_cloths(self):
        form = normal(CLOTH)[0]
        self.judges("forms", accept_compare, CLOTH, CLOTH, ("unlike", form, form))
        self.judges("forms", accept_compare, CLOTH, PLAIN, ("unlike", normal(PLAIN)[0], form))
        self.judges("forms", accept_compare, CLOTH, PLAIN, ("unlike", CLOTH, normal(PLAIN)[0]))
        self.judges("turn", accept_compare, CLOTH, PLAIN, ("same", (NO_WAY, 0, 0)))
        self.judges("form", accept_compare, CLOTH, CLOTH, ("unlike", form))
        self.judges("form", accept_compare, CLOTH, CLOTH, ("same", (NO_WAY, 0, 0), None))

    def test_any_values(self):
        self.stands_any_values(accept_compare, PLAIN, PLAIN, ("same", (NO_WAY, 0, 0)))
        self.stands_any_values(accept_compare, PLAIN, CLOTH, compare(PLAIN, CLOTH))


class SymmetriesTest(WeaveTest):
    def test_bare(self):
        expected = [way for way in WAYS if way[2] == way[3]]
        self.assertEqual(symmetries(((1, 1), (1, 1))), tuple([(way, 0, 0) for way in expected]))
        self.assertEqual(
            classes(((0,),)), ((("end", 0), (NO_WAY, 0, 0)), (("end", 0), ((0, 0, 1, 1), 0, 0)))
        )
        self.assertTrue(is_even(((1,),)))

    def test_plain(self):
        self.assertEqual(len(symmetries(PLAIN)), 32)
        self.assertEqual(classes(PLAIN), (
            (("end", 0), (NO_WAY, 0, 0)), (("end", 0), (NO_WAY, 1, 1)),
            (("end", 0), ((0, 0, 1, 0), 0, 1)), (("end", 0), ((0, 0, 1, 0), 1, 0)),
        ))
        self.assertTrue(is_even(PLAIN))

    def test_satins(self):
        self.assertEqual(len(symmetries(satin(5, 2))), 20)
        self.assertEqual(len(symmetries(satin(8, 3))), 32)
        for ends, step in ((5, 2), (7, 2), (8, 3), (12, 5)):
            cloth = satin(ends, step)
            self.assertEqual(symmetries(cloth), tuple([t for t in all_turns(cloth) if behind(cloth, t) == cloth]))
            # No quarter turn leads the satin of 7 ends with the step 2 to itself: it leads to the steps 3 and 4.
            expected = {("end", 0), ("pick", 0)} if ends == 7 else {("end", 0)}
            self.assertEqual({first for first, _ in classes(cloth)}, expected)
            self.assertEqual(is_even(cloth), ends != 7)

    def test_uneven(self):
        self.assertFalse(is_even(CLOTH))
        self.assertEqual([first for first, _ in classes(CLOTH)], [
            ("end", 0), ("end", 0), ("end", 2), ("pick", 0), ("pick", 1),
        ])
        self.assertFalse(is_even(((1, 0),)))

    def test_beside_all_turns(self):
        cloths = all_cloths(2, 2) + all_cloths(1, 4) + all_cloths(3, 2) + some_cloths(35, 40, 5)
        for cloth in cloths + [repeated(PLAIN, 2, 3)]:
            small = least(cloth)
            turns = [turn for turn in all_turns(small) if behind(small, turn) == small]
            self.assertEqual(symmetries(cloth), tuple(turns))
            expected = []
            for thread in threads_in(small):
                first = min([threads_in(small).index(other) for other in threads_in(small) if any([
                    carried(small, turn, other) == thread for turn in turns
                ])])
                first = threads_in(small)[first]
                expected.append((first, [turn for turn in turns if carried(small, turn, first) == thread][0]))
            self.assertEqual(classes(cloth), tuple(expected))
            self.assertEqual(is_even(cloth), len({first for first, _ in expected}) == 1)
