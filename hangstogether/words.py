"""Reading and writing cloths and drafts."""

from hangstogether.tokens import Reader


def read_cloth(text):
    """Return the cloth that a text tells, whether it is one or not."""
    reader = Reader(text)
    reader.begin("cloth")
    rows = []
    while reader.kind() == "signs":
        rows.append(_row_of_signs(reader.take("signs")))
    reader.take(")")
    reader.finish()
    return tuple(rows)


def read_draft(text):
    """Return the draft that a text tells, whether it is one or not."""
    reader = Reader(text)
    reader.begin("threading")
    threading = _numbers(reader)
    reader.begin("tieup")
    tieup = _rows_of_numbers(reader)
    reader.begin("treadling")
    treadling = _rows_of_numbers(reader)
    reader.finish()
    return threading, tieup, treadling


def _row_of_signs(word):
    return tuple([1 if sign == "#" else 0 for sign in word])


def _numbers(reader):
    """Return the numbers up to the closing parenthesis, and take it, too."""
    numbers = []
    while reader.kind() == "numeral":
        numbers.append(int(reader.take("numeral")))
    reader.take(")")
    return tuple(numbers)


def _rows_of_numbers(reader):
    rows = []
    while reader.kind() == "(":
        reader.take("(")
        rows.append(_numbers(reader))
    reader.take(")")
    return tuple(rows)


def write_cloth(cloth):
    """Return the text of a cloth."""
    rows = ["".join(["#" if part == 1 else "-" for part in row]) for row in cloth]
    return _line("cloth", rows)


def write_draft(draft):
    """Return the text of a draft."""
    threading, tieup, treadling = draft
    return (
        _line("threading", [str(shaft) for shaft in threading])
        + _line("tieup", [_in_parentheses(shafts) for shafts in tieup])
        + _line("treadling", [_in_parentheses(treadles) for treadles in treadling])
    )


def _line(name, parts):
    return "(" + " ".join([name, *parts]) + ")\n"


def _in_parentheses(numbers):
    return "(" + " ".join([str(number) for number in numbers]) + ")"
