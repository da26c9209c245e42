"""Points 75 to 81: yarn."""

import itertools
import random
from fractions import Fraction

from hangstogether.errors import ArgumentError, ClothError
from hangstogether.floats import interlacings
from hangstogether.yarn import accept_cone_table, amounts, bends, cone_table, costs, lengths, whole_cones, wound
from tests.helpers import WeaveTest, all_cloths, some_cloths, threads_in, variants

PLAIN = ((1, 0), (0, 1))
MEASURES = (3, 5, (1, 2))
PLAN = (("red", "blue"), ("blue", "green"))
ROWS = ((3, 1), (3, 1), (5, 1))
NO_FRACTIONS = (
    None, 0, (), (1,), (1, 1, 1), [1, 1], (2, 4), (0, 2), (0, 0), (1, 0), (-1, 2), (1, -2), (-1, -2), (True, 1),
    (1, True), ("1", 1), (1, None), (6, 3),
)


def pair(value):
    return value.numerator, value.denominator


def slow_bends(cloth):
    found = []
    for kind, number in threads_in(cloth):
        row = [row[number] for row in cloth] if kind == "end" else list(cloth[number])
        found.append(len([1 for one, other in zip(row, row[1:] + row[:1]) if one != other]))
    return tuple(found)


def slow_lengths(cloth, measures):
    picks, ends, (over, under) = measures
    found = []
    for (kind, _), count in zip(threads_in(cloth), slow_bends(cloth)):
        straight = len(cloth) * picks if kind == "end" else len(cloth[0]) * ends
        found.append(straight + count * Fraction(over, under))
    return found


def slow_table(rows, cones):
    """Return the entries as point 79 tells them, with fractions of Python's own."""
    rows = [Fraction(*row) for row in rows]

    def put(entry, length):
        cone, used = entry
        if cone < len(cones) and used + length <= cones[cone]:
            return cone, used + length
        longer = [place for place in range(cone + 1, len(cones)) if cones[place] >= length]
        return (longer[0], length) if longer else None

    table = [(0, Fraction(0))]
    for number in range(1, 2 ** len(rows)):
        found = []
        for place, length in enumerate(rows):
            if number & 2 ** place and table[number - 2 ** place] is not None:
                found.append(put(table[number - 2 ** place], length))
        table.append(min([entry for entry in found if entry is not None], default=None))
    return tuple([entry and (entry[0], pair(entry[1])) for entry in table])


def fits(rows, cones, places):
    return all([
        sum([Fraction(*row) for row, place in zip(rows, places) if place == cone]) <= cones[cone]
        for cone in range(len(cones))
    ])


def some_rows(chance, count):
    return tuple([pair(Fraction(chance.randint(0, 12), chance.randint(1, 3))) for _ in range(count)])


class BendsTest(WeaveTest):
    def test_examples(self):
        self.assertEqual(bends(PLAIN), (2, 2, 2, 2))
        self.assertEqual(bends(((1,),)), (0, 0))
        self.assertEqual(bends(((1, 1), (0, 0))), (2, 2, 0, 0))
        # Round the repeat from the last crossing to the first one.
        self.assertEqual(bends(((1, 0, 0, 1),)), (0, 0, 0, 0, 2))
        self.assertEqual(bends(((1, 0, 1, 0, 0, 1),))[-1], 4)

    def test_some_cloths(self):
        for cloth in all_cloths(2, 3) + all_cloths(3, 2) + some_cloths(81, 150, 7):
            self.assertEqual(bends(cloth), slow_bends(cloth))
            self.assertEqual(bends(cloth), interlacings(cloth))


class LengthsTest(WeaveTest):
    def test_examples(self):
        self.assertEqual(lengths(PLAIN, MEASURES), ((7, 1), (7, 1), (11, 1), (11, 1)))
        self.assertEqual(lengths(((1,),), (1000, 1, (1000, 1))), ((1000, 1), (1, 1)))
        self.assertEqual(lengths(((1, 0),), (1, 1, (2, 6))), ((1, 1), (1, 1), (8, 3)))
        self.assertEqual(lengths(((1, 0),), (1, 1, (0, 1000)))[-1], (2, 1))

    def test_some_cloths(self):
        chance = random.Random(82)
        for cloth in some_cloths(83, 150, 7):
            gaps = [chance.randint(1, 1000) for _ in range(3)]
            measures = (gaps[0], gaps[1], (chance.randint(0, 1000), gaps[2]))
            self.assertEqual(lengths(cloth, measures), tuple(map(pair, slow_lengths(cloth, measures))))

    def test_wrong_measures(self):
        wrong = [None, 0, (), (3, 5), (3, 5, 1, 2), [3, 5, (1, 2)], (3, 5, [1, 2]), (3, 5, (1,)), (3, 5, (1, 2, 3))]
        for value in (0, 1001, -1, True, None, "1", (1,), 10 ** 30):
            wrong += [(value, 5, (1, 2)), (3, value, (1, 2)), (3, 5, (1, value))]
        wrong += [(3, 5, (value, 2)) for value in (-1, 1001, True, None, "1")]
        for measures in wrong:
            self.refuses(ArgumentError, "measures", lengths, PLAIN, measures)
            self.refuses(ArgumentError, "measures", amounts, PLAIN, PLAN, measures, None)
        self.refuses(ClothError, "form", lengths, None, None)
        self.refuses(ClothError, "crossing", bends, ((2,),))
        self.stands_any_values(lengths, PLAIN, MEASURES)
        self.stands_any_values(bends, PLAIN)


class AmountsTest(WeaveTest):
    def test_examples(self):
        self.assertEqual(
            amounts(PLAIN, PLAN, MEASURES, (1, 1)), (("red", (7, 1)), ("blue", (18, 1)), ("green", (11, 1)))
        )
        self.assertEqual(amounts(((1, 0),), (("b", "a"), ("b",)), (1, 1, (1, 3)), (2, 3)), (("b", (22, 1)), ("a", (6, 1))))

    def test_beside_all_threads(self):
        chance = random.Random(84)
        for cloth in some_cloths(85, 150, 6):
            plan = tuple([
                tuple([chance.choice("abcd") for _ in range(count)]) for count in (len(cloth[0]), len(cloth))
            ])
            measures = (chance.randint(1, 9), chance.randint(1, 9), (chance.randint(0, 9), chance.randint(1, 9)))
            repeats = chance.randint(1, 100), chance.randint(1, 100)
            told = {}
            # Each thread of the whole stretches through all repeats in its own direction.
            for kind, number in threads_in(cloth):
                colour = plan[0 if kind == "end" else 1][number]
                place = threads_in(cloth).index((kind, number))
                once = slow_lengths(cloth, measures)[place]
                threads, far = (repeats[1], repeats[0]) if kind == "end" else repeats
                told[colour] = told.get(colour, 0) + once * far * threads
            expected = tuple([(colour, pair(length)) for colour, length in told.items()])
            self.assertEqual(amounts(cloth, plan, measures, repeats), expected)

    def test_wrong_arguments(self):
        for plan in (None, (), PLAN[:1], (("red",), PLAN[1]), (PLAN[0], ("a", "")), (PLAN[0], ("a", "b" * 13))):
            self.refuses(ArgumentError, "plan", amounts, PLAIN, plan, None, None)
        self.refuses(ClothError, "form", amounts, None, None, None, None)
        wrong = [None, 2, (), (1,), (1, 1, 1), [1, 1]]
        for value in (0, 101, -1, True, None, "1", (1,)):
            wrong += [(value, 1), (1, value)]
        for repeats in wrong:
            self.refuses(ArgumentError, "repeats", amounts, PLAIN, PLAN, MEASURES, repeats)
        self.assertEqual(amounts(PLAIN, PLAN, MEASURES, (100, 100))[0], ("red", (70000, 1)))
        self.stands_any_values(amounts, PLAIN, PLAN, MEASURES, (1, 1))


class WholeConesTest(WeaveTest):
    def test_examples(self):
        self.assertEqual(whole_cones((0, 1), 7), (0, (0, 1)))
        self.assertEqual(whole_cones((7, 1), 7), (1, (0, 1)))
        self.assertEqual(whole_cones((15, 2), 7), (2, (13, 2)))
        self.assertEqual(whole_cones((1, 3), 1000000), (1, (2999999, 3)))

    def test_some_lengths(self):
        for over, under, cone in itertools.product(range(30), range(1, 6), range(1, 8)):
            length = Fraction(over, under)
            count = 0
            while count * cone < length:
                count += 1
            self.assertEqual(whole_cones(pair(length), cone), (count, pair(count * cone - length)))

    def test_wrong_arguments(self):
        for length in NO_FRACTIONS:
            self.refuses(ArgumentError, "lengths", whole_cones, length, 5)
            self.refuses(ArgumentError, "lengths", whole_cones, length, 0)
        for cone in (0, -1, 1000001, True, None, "5", (5,)):
            self.refuses(ArgumentError, "cone", whole_cones, (3, 2), cone)
        self.stands_any_values(whole_cones, (3, 2), 5)


class ConeTableTest(WeaveTest):
    def test_example(self):
        self.assertEqual(wound(ROWS, (5, 6)), (1, 1, 0))
        self.assertEqual(cone_table(ROWS, (5, 6)), (
            (0, (0, 1)), (0, (3, 1)), (0, (3, 1)), (1, (3, 1)), (0, (5, 1)), (1, (3, 1)), (1, (3, 1)), (1, (6, 1)),
        ))

    def test_nothing(self):
        self.assertEqual(cone_table((), ()), ((0, (0, 1)),))
        self.assertEqual(cone_table((), (4,)), ((0, (0, 1)),))
        self.assertEqual((wound((), ()), wound((), (3,))), ((), ()))
        self.assertEqual(cone_table(((0, 1),), ()), ((0, (0, 1)), None))
        self.assertIsNone(wound(((0, 1),), ()))
        self.assertEqual(wound(((0, 1),), (1,)), (0,))
        self.assertIsNone(wound(((3, 2),), (1, 1)))
        self.assertEqual(wound(((3, 2),), (1, 2)), (1,))

    def test_beside_trying_all_cones(self):
        chance = random.Random(86)
        answers = {True: 0, False: 0}
        for _ in range(300):
            rows = some_rows(chance, chance.randint(0, 5))
            cones = tuple([chance.randint(1, 14) for _ in range(chance.randint(0, 4))])
            table = cone_table(rows, cones)
            self.assertEqual(table, slow_table(rows, cones))
            self.assertIsNone(accept_cone_table(rows, cones, table))
            every = itertools.product(range(len(cones)), repeat=len(rows))
            possible = any([fits(rows, cones, places) for places in every])
            told = wound(rows, cones)
            self.assertEqual((told is not None, table[-1] is not None), (possible, possible))
            if possible:
                self.assertEqual((len(told), set(told) <= set(range(len(cones)))), (len(rows), True))
                self.assertTrue(fits(rows, cones, told))
            answers[possible] += 1
        self.assertGreater(min(answers.values()), 50)

    def test_subsets(self):
        # A set is wound by a table exactly if some cones take it.
        rows = ((7, 2), (5, 1), (1, 3), (4, 1))
        for cones in ((4, 5), (5, 4, 1), (9, 4), (2, 3)):
            table = cone_table(rows, cones)
            for number in range(16):
                some = [row for place, row in enumerate(rows) if number & 2 ** place]
                every = itertools.product(range(len(cones)), repeat=len(some))
                self.assertEqual(table[number] is not None, any([fits(some, cones, places) for places in every]))

    def test_most(self):
        rows = tuple([(place + 3, 1) for place in range(8)])
        cones = (7, 7, 7, 7, 7, 7, 10, 10)
        self.assertEqual(cone_table(rows, cones), slow_table(rows, cones))
        self.refuses(ArgumentError, "lengths", cone_table, (*rows, (1, 1)), cones)
        self.refuses(ArgumentError, "cones", cone_table, rows, (*cones, 1))
        self.assertEqual(wound(((1000000, 1),), (1000000,)), (0,))

    def test_wrong_arguments(self):
        functions = (cone_table, wound, lambda rows, cones: accept_cone_table(rows, cones, None))
        for function in functions:
            for length in NO_FRACTIONS:
                self.refuses(ArgumentError, "lengths", function, (*ROWS, length), (5, 6))
                self.refuses(ArgumentError, "lengths", function, (length,), None)
            for rows in (None, 0, list(ROWS), (1, 2), "ab"):
                self.refuses(ArgumentError, "lengths", function, rows, None)
            for cones in (None, 5, [5, 6], "56", (0,), (1000001,), (True,), (-1,), ("5",), (None,), ((5,),)):
                self.refuses(ArgumentError, "cones", function, ROWS, cones)
            self.stands_any_values(function, ROWS, (5, 6))


class AcceptTest(WeaveTest):
    def is_entry(self, value):
        if value is None:
            return True
        if type(value) is not tuple or len(value) != 2 or type(value[0]) is not int:
            return False
        part = value[1]
        if type(part) is not tuple or len(part) != 2 or {type(number) for number in part} != {int}:
            return False
        return part[0] >= 0 and part[1] > 0 and pair(Fraction(*part)) == part

    def reason(self, rows, cones, table):
        if type(table) is not tuple or len(table) != 2 ** len(rows) or not all(map(self.is_entry, table)):
            return "form"
        return None if table == slow_table(rows, cones) else "entry"

    def test_changed_tables(self):
        cases = ((ROWS, (5, 6)), (ROWS, (5, 5)), (((1, 2), (1, 3)), (1,)), ((), ()), (((0, 1),), ()), (((5, 2),), (3, 2)))
        for rows, cones in cases:
            for table in variants(cone_table(rows, cones)):
                self.judges(self.reason(rows, cones, table), accept_cone_table, rows, cones, table)

    def test_other_tables(self):
        table = cone_table(ROWS, (5, 6))
        self.judges("entry", accept_cone_table, ROWS, (5, 5), table)
        self.judges("entry", accept_cone_table, ROWS, (5, 6), (None,) * 8)
        self.judges("form", accept_cone_table, ROWS, (5, 6), (*table[:1], (0, (6, 2)), *table[2:]))
        self.stands_any_values(accept_cone_table, ROWS, (5, 6), table)


class CostsTest(WeaveTest):
    def slow(self, rows, price):
        rows = [Fraction(*row) for row in rows]
        exact = [price * row / sum(rows) for row in rows]
        shares = [part.numerator // part.denominator for part in exact]
        for _ in range(price - sum(shares)):
            rests = [part - share for part, share in zip(exact, shares)]
            shares[rests.index(max(rests))] += 1
        return tuple(shares)

    def test_examples(self):
        self.assertEqual(costs(((1, 1), (1, 1), (1, 1)), 10), (4, 3, 3))
        self.assertEqual(costs(((1, 1), (1, 1), (1, 1)), 11), (4, 4, 3))
        self.assertEqual(costs(((1, 3), (0, 1), (1, 6)), 100), (67, 0, 33))
        self.assertEqual(costs(((0, 1), (5, 1)), 0), (0, 0))
        self.assertEqual(costs(((0, 1), (5, 1)), 1000000), (0, 1000000))

    def test_some_lengths(self):
        chance = random.Random(87)
        for _ in range(300):
            rows = some_rows(chance, chance.randint(1, 8))
            price = chance.choice((chance.randint(0, 30), chance.randint(0, 1000000)))
            if any([over for over, _ in rows]):
                told = costs(rows, price)
                self.assertEqual(told, self.slow(rows, price))
                self.assertEqual(sum(told), price)

    def test_wrong_arguments(self):
        for rows in (None, (), ((0, 1),), ((0, 1), (0, 1)), list(ROWS), ((1, 1),) * 9, (1, 1), ((2, 2),), ((1, True),)):
            self.refuses(ArgumentError, "lengths", costs, rows, 5)
            self.refuses(ArgumentError, "lengths", costs, rows, None)
        for price in (-1, 1000001, True, None, "5", (5,)):
            self.refuses(ArgumentError, "price", costs, ROWS, price)
        self.stands_any_values(costs, ROWS, 5)
