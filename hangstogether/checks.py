"""Checking cloths and drafts."""

from hangstogether.errors import ClothError, DraftError
from hangstogether.kinds import ascends, is_number, is_row
from hangstogether.limits import MAX_ENDS, MAX_PICKS, MAX_SHAFTS, MAX_TREADLES


def check_cloth(cloth):
    """Raise ClothError for the first reason for which a value is no cloth."""
    reason = _fault_of_cloth(cloth)
    if reason is not None:
        raise ClothError(reason)


def check_draft(draft):
    """Raise DraftError for the first reason for which a value is no draft."""
    reason = _fault_of_draft(draft)
    if reason is not None:
        raise DraftError(reason)


def is_cloth(value):
    """Tell whether a value is a cloth."""
    return _fault_of_cloth(value) is None


def is_draft(value):
    """Tell whether a value is a draft."""
    return _fault_of_draft(value) is None


def are_like_cloths(value, most):
    """Tell whether a value is a tuple of 1 to so many cloths of one size."""
    if not isinstance(value, tuple) or not 1 <= len(value) <= most:
        return False
    if not all([is_cloth(part) for part in value]):
        return False
    return all([len(part) == len(value[0]) and len(part[0]) == len(value[0][0]) for part in value])


def are_rows_of_numbers(value, most):
    """Tell whether a value is a tuple of equally long rows of integers from 0 to this one, of the size of a cloth."""
    if not isinstance(value, tuple) or not 1 <= len(value) <= MAX_PICKS:
        return False
    if not isinstance(value[0], tuple) or not 1 <= len(value[0]) <= MAX_ENDS:
        return False
    size = len(value[0])
    return all([is_row(row, size) and all([is_number(part, 0, most) for part in row]) for row in value])


def is_threading(value, shafts):
    """Tell whether a value is a tuple of the shafts of 1 to MAX_ENDS ends, from 0 to below a number."""
    if not isinstance(value, tuple) or not 1 <= len(value) <= MAX_ENDS:
        return False
    return all([is_number(part, 0, shafts - 1) for part in value])


def _fault_of_cloth(cloth):
    if not isinstance(cloth, tuple) or not all([isinstance(row, tuple) for row in cloth]):
        return "form"
    if not 1 <= len(cloth) <= MAX_PICKS:
        return "picks"
    ends = len(cloth[0])
    if not 1 <= ends <= MAX_ENDS or not all([len(row) == ends for row in cloth]):
        return "ends"
    for row in cloth:
        if not all([is_number(part, 0, 1) for part in row]):
            return "crossing"
    return None


def _fault_of_draft(draft):
    if not is_row(draft, 3) or not all([isinstance(part, tuple) for part in draft]):
        return "form"
    threading, tieup, treadling = draft
    if not is_threading(threading, MAX_SHAFTS):
        return "threading"
    if len(tieup) > MAX_TREADLES or not all([ascends(shafts, MAX_SHAFTS) for shafts in tieup]):
        return "tieup"
    if not 1 <= len(treadling) <= MAX_PICKS:
        return "treadling"
    if not all([ascends(treadles, len(tieup)) for treadles in treadling]):
        return "treadling"
    return None
