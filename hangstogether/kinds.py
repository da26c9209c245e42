"""Questions about values of any kind."""


def is_integer(value):
    """Tell whether a value is an integer, and no boolean."""
    return type(value) is int


def is_number(value, least, most):
    """Tell whether a value is an integer from least to most."""
    return is_integer(value) and least <= value <= most


def is_row(value, size):
    """Tell whether a value is a tuple of so many parts."""
    return isinstance(value, tuple) and len(value) == size


def begins(value, size, word):
    """Tell whether a value is a tuple of so many parts that begins with a word."""
    return is_row(value, size) and value[0] == word


def ascends(value, below):
    """Tell whether a value is an ascending tuple of integers from 0 to below a number, each once."""
    if not isinstance(value, tuple):
        return False
    least = 0
    for part in value:
        if not is_number(part, least, below - 1):
            return False
        least = part + 1
    return True


def is_order(value, count):
    """Tell whether a value is a tuple of all integers from 0 to below a number, each once."""
    if not is_row(value, count) or not all([is_number(part, 0, count - 1) for part in value]):
        return False
    return len(set(value)) == count


def divides(value, number):
    """Tell whether a value is an integer from 1 on that divides a number."""
    return is_integer(value) and value >= 1 and number % value == 0


def is_table(value, sizes):
    """Tell whether a value is a tuple of tuples of integers, so many as the sizes tell."""
    if not is_row(value, len(sizes)):
        return False
    return all([is_row(row, size) and all([is_integer(part) for part in row]) for row, size in zip(value, sizes)])
