"""Points 67 to 69: counting."""

import itertools

from hangstogether.counting import accept_piece_table, piece_table, pieces, up_to_moves
from hangstogether.errors import ArgumentError
from tests.helpers import WeaveTest, all_cloths, variants


def has_room(row, most):
    """Tell whether a row has no more than so many equal digits side by side."""
    return all([len(list(group)) <= most for _, group in itertools.groupby(row)])


def state_of(piece):
    found = []
    for column in zip(*piece):
        digit, group = [(digit, list(group)) for digit, group in itertools.groupby(column)][-1]
        found.append((digit, len(group)))
    return tuple(found)


def slow_row(picks, ends, most):
    """Return a row of the table from all pieces of its size."""
    counts = {}
    for piece in all_cloths(picks, ends):
        if all([has_room(row, most) for row in piece]) and all([has_room(column, most) for column in zip(*piece)]):
            counts[state_of(piece)] = counts.get(state_of(piece), 0) + 1
    return tuple(sorted(counts.items()))


def slow_up_to_moves(picks, ends):
    """Return how many classes there are, by moving all cloths."""
    seen = set()
    count = 0
    for cloth in all_cloths(picks, ends):
        if cloth not in seen:
            count += 1
            for down, aside in itertools.product(range(picks), range(ends)):
                rows = cloth[down:] + cloth[:down]
                seen.add(tuple([row[aside:] + row[:aside] for row in rows]))
    return count


class PieceTableTest(WeaveTest):
    def test_example(self):
        self.assertEqual(pieces(2, 2, 1), 2)
        self.assertEqual(piece_table(2, 1, 1), (
            ((((0, 1),), 1), (((1, 1),), 1)), ((((0, 1),), 1), (((1, 1),), 1)),
        ))
        self.assertEqual(piece_table(2, 1, 2)[1], (
            (((0, 1),), 1), (((0, 2),), 1), (((1, 1),), 1), (((1, 2),), 1),
        ))

    def test_beside_all_pieces(self):
        for picks, ends in ((1, 1), (6, 1), (5, 2), (4, 3), (3, 4)):
            for most in (1, 2, 3):
                expected = tuple([slow_row(count, ends, most) for count in range(1, picks + 1)])
                table = piece_table(picks, ends, most)
                self.assertEqual(table, expected)
                self.assertEqual(pieces(picks, ends, most), sum([number for _, number in expected[-1]]))
                self.assertIsNone(accept_piece_table(picks, ends, most, table))

    def test_greatest(self):
        table = piece_table(12, 4, 3)
        self.assertEqual(len(table), 12)
        self.assertEqual(pieces(12, 4, 3), sum([number for _, number in table[-1]]))
        self.assertIsNone(accept_piece_table(12, 4, 3, table))
        self.assertEqual(pieces(12, 4, 1), 2)

    def test_wrong_arguments(self):
        functions = (piece_table, pieces, lambda picks, ends, most: accept_piece_table(picks, ends, most, None))
        for function in functions:
            for picks in (0, 13, -1, True, None, "2", (2,), 10 ** 30):
                self.refuses(ArgumentError, "picks", function, picks, 0, 0)
            for ends in (0, 5, -1, True, None, "2", (2,), 10 ** 30):
                self.refuses(ArgumentError, "ends", function, 2, ends, 0)
            for most in (0, 4, -1, True, None, "2", (2,), 10 ** 30):
                self.refuses(ArgumentError, "most", function, 2, 2, most)
            self.stands_any_values(function, 2, 2, 2)


class AcceptTest(WeaveTest):
    def is_entry(self, value, ends, most):
        if type(value) is not tuple or len(value) != 2 or type(value[1]) is not int:
            return False
        columns = value[0]
        if type(columns) is not tuple or len(columns) != ends:
            return False
        right = [(digit, length) for digit in (0, 1) for length in range(1, most + 1)]
        return all([repr(column) in map(repr, right) for column in columns])

    def reason(self, picks, ends, most, table):
        if type(table) is not tuple or len(table) != picks or not all([type(row) is tuple for row in table]):
            return "form"
        if not all([self.is_entry(value, ends, most) for row in table for value in row]):
            return "form"
        expected = tuple([slow_row(count, ends, most) for count in range(1, picks + 1)])
        return None if table == expected else "row"

    def test_changed_tables(self):
        for picks, ends, most in ((1, 1, 1), (3, 1, 2), (2, 2, 1), (2, 2, 2)):
            for table in variants(piece_table(picks, ends, most)):
                self.judges(self.reason(picks, ends, most, table), accept_piece_table, picks, ends, most, table)

    def test_other_tables(self):
        table = piece_table(3, 2, 2)
        self.judges("form", accept_piece_table, 3, 2, 1, table)
        self.judges("row", accept_piece_table, 3, 2, 3, table)
        self.judges("form", accept_piece_table, 2, 2, 2, table)
        self.judges("row", accept_piece_table, 3, 2, 2, ((), (), ()))
        self.judges("row", accept_piece_table, 3, 2, 2, (table[1], table[1], table[2]))
        self.judges("row", accept_piece_table, 3, 2, 2, (table[0], table[2], table[1]))
        doubled = tuple([tuple([(state, 2 * number) for state, number in row]) for row in table])
        self.judges("row", accept_piece_table, 3, 2, 2, doubled)
        self.judges("row", accept_piece_table, 3, 2, 2, (table[0], *doubled[1:]))
        self.judges("row", accept_piece_table, 3, 2, 2, (table[0], table[1], table[2][::-1]))

    def test_any_values(self):
        self.stands_any_values(accept_piece_table, 2, 2, 2, piece_table(2, 2, 2))


class UpToMovesTest(WeaveTest):
    def test_example(self):
        self.assertEqual(up_to_moves(2, 2), 7)
        self.assertEqual(up_to_moves(1, 1), 2)
        self.assertEqual([up_to_moves(1, ends) for ends in (2, 3, 4, 6, 12)], [3, 4, 6, 14, 352])

    def test_beside_counting_classes(self):
        for picks, ends in itertools.product(range(1, 13), repeat=2):
            if picks * ends <= 12:
                self.assertEqual(up_to_moves(picks, ends), slow_up_to_moves(picks, ends))

    def test_greatest(self):
        self.assertEqual(up_to_moves(11, 12), up_to_moves(12, 11))
        circles = 0
        for down, aside in itertools.product(range(12), repeat=2):
            places = set(itertools.product(range(12), repeat=2))
            count = 0
            while places:
                count += 1
                pick, end = place = min(places)
                while place in places:
                    places.remove(place)
                    place = ((place[0] + down) % 12, (place[1] + aside) % 12)
            circles += 2 ** count
        self.assertEqual(up_to_moves(12, 12), circles // 144)
        self.assertEqual(circles % 144, 0)

    def test_wrong_arguments(self):
        for size in (0, 13, -1, True, None, "2", (2,), 10 ** 30):
            self.refuses(ArgumentError, "picks", up_to_moves, size, 0)
            self.refuses(ArgumentError, "ends", up_to_moves, 2, size)
        self.stands_any_values(up_to_moves, 2, 2)
