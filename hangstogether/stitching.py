"""The fewest stitches behind which a piece hangs together."""

from hangstogether.checks import check_cloth
from hangstogether.crossings import exchanged_at, is_crossing
from hangstogether.errors import ArgumentError, PaperError
from hangstogether.kinds import is_number
from hangstogether.limits import MAX_STITCHED, MAX_STITCHES
from hangstogether.threads import first_lifted


def _check_arguments(cloth, most):
    check_cloth(cloth)
    if len(cloth) > MAX_STITCHED or len(cloth[0]) > MAX_STITCHED:
        raise ArgumentError("size")
    if not is_number(most, 0, MAX_STITCHES):
        raise ArgumentError("most")


def _is_together(cloth):
    """Tell whether a cloth hangs together."""
    return first_lifted(cloth, ()) is None


def _rows_of_crossings(cloth, count):
    """Return all rows of so many crossings, in ascending order."""
    crossings = [(pick, end) for pick, row in enumerate(cloth) for end in range(len(row))]
    rows = [()]
    for _ in range(count):
        rows = [(*row, crossing) for row in rows for crossing in crossings if row[-1:] < (crossing,)]
    return rows


def fewest_stitches(cloth, most):
    """Return the first row of the fewest crossings behind whose turning a piece hangs together, or None."""
    _check_arguments(cloth, most)
    for count in range(most + 1):
        for row in _rows_of_crossings(cloth, count):
            if _is_together(exchanged_at(cloth, row)):
                return row
    return None


def accept_stitches(cloth, most, told):
    """Raise PaperError unless a value is a row of crossings behind whose turning a piece hangs together."""
    _check_arguments(cloth, most)
    if not isinstance(told, tuple) or len(told) > most:
        raise PaperError("form")
    if not all([is_crossing(cloth, part) for part in told]):
        raise PaperError("crossings")
    if not all([first < second for first, second in zip(told, told[1:])]):
        raise PaperError("crossings")
    if not _is_together(exchanged_at(cloth, told)):
        raise PaperError("apart")


def least_needed(cloth):
    """Return a number of stitches that is needed at least."""
    check_cloth(cloth)
    if _is_together(cloth):
        return 0
    columns = list(zip(*cloth))
    above = len([1 for column in columns if 0 not in column]) + len([1 for row in cloth if 1 not in row])
    below = len([1 for column in columns if 1 not in column]) + len([1 for row in cloth if 0 not in row])
    return max(above, below, 1)
