"""How many pieces and how many endless cloths there are."""

from math import gcd, lcm

from hangstogether.errors import ArgumentError, PaperError
from hangstogether.kinds import is_integer, is_number, is_row
from hangstogether.limits import MAX_COUNTED, MAX_FLOAT, MAX_ROWS


def _check_arguments(picks, ends, most):
    if not is_number(picks, 1, MAX_ROWS):
        raise ArgumentError("picks")
    if not is_number(ends, 1, MAX_COUNTED):
        raise ArgumentError("ends")
    if not is_number(most, 1, MAX_FLOAT):
        raise ArgumentError("most")


def piece_table(picks, ends, most):
    """Return for each number of picks in which states pieces can end, and how many end in each."""
    _check_arguments(picks, ends, most)
    rows = _rows_of_digits(ends, most)
    table = [_first_row(rows)]
    while len(table) < picks:
        table.append(_next_row(rows, table[-1], most))
    return tuple(table)


def _rows_of_digits(ends, most):
    """Return all rows of so many digits without more equal ones side by side than may be."""
    rows = [()]
    for _ in range(ends):
        rows = [(*row, digit) for row in rows for digit in (0, 1) if row[-most:] != (digit,) * most]
    return rows


def _first_row(rows):
    return tuple([(tuple([(digit, 1) for digit in row]), 1) for row in rows])


def _next_row(rows, before, most):
    """Return the row of the table behind another one."""
    counts = {}
    for state, number in before:
        for row in rows:
            further = _state_behind(state, row)
            if all([length <= most for _, length in further]):
                counts[further] = counts.get(further, 0) + number
    return tuple(sorted(counts.items()))


def _state_behind(state, row):
    return tuple([
        (digit, length + 1 if digit == last else 1) for (last, length), digit in zip(state, row)
    ])


def pieces(picks, ends, most):
    """Return how many pieces there are."""
    return sum([number for _, number in piece_table(picks, ends, most)[-1]])


def accept_piece_table(picks, ends, most, table):
    """Raise PaperError unless a value is the table of pieces."""
    _check_arguments(picks, ends, most)
    if not is_row(table, picks) or not all([_is_row_of_table(row, ends, most) for row in table]):
        raise PaperError("form")
    rows = _rows_of_digits(ends, most)
    if table[0] != _first_row(rows):
        raise PaperError("row")
    for before, row in zip(table, table[1:]):
        if row != _next_row(rows, before, most):
            raise PaperError("row")


def _is_row_of_table(value, ends, most):
    return isinstance(value, tuple) and all([_is_entry(part, ends, most) for part in value])


def _is_entry(value, ends, most):
    if not is_row(value, 2) or not is_row(value[0], ends) or not is_integer(value[1]):
        return False
    return all([_is_column(part, most) for part in value[0]])


def _is_column(value, most):
    return is_row(value, 2) and is_number(value[0], 0, 1) and is_number(value[1], 1, most)


def up_to_moves(picks, ends):
    """Return how many endless cloths repeat after so many picks and ends, those that differ by a move being one."""
    if not is_number(picks, 1, MAX_ROWS):
        raise ArgumentError("picks")
    if not is_number(ends, 1, MAX_ROWS):
        raise ArgumentError("ends")
    crossings = picks * ends
    total = 0
    for down in range(picks):
        for aside in range(ends):
            # So many moves bring a crossing back to where it was.
            size = lcm(picks // gcd(picks, down), ends // gcd(ends, aside))
            total += 1 << (crossings // size)
    return total // crossings
