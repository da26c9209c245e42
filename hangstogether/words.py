"""Reading and writing cloths and drafts."""

from hangstogether.tokens import Reader, in_parentheses, line_of


def read_cloth(text):
    """Return the cloth that a text tells, whether it is one or not."""
    reader = Reader(text)
    reader.begin("cloth")
    rows = reader.rest("signs", _row_of_signs)
    reader.finish()
    return rows


def read_draft(text):
    """Return the draft that a text tells, whether it is one or not."""
    reader = Reader(text)
    reader.begin("threading")
    threading = _numbers(reader)
    reader.begin("tieup")
    tieup = reader.rest("(", _row_of_numbers)
    reader.begin("treadling")
    treadling = reader.rest("(", _row_of_numbers)
    reader.finish()
    return threading, tieup, treadling


def _row_of_signs(reader):
    return tuple([1 if sign == "#" else 0 for sign in reader.take("signs")])


def _numbers(reader):
    return reader.rest("numeral", _number)


def _number(reader):
    return reader.numeral()


def _row_of_numbers(reader):
    reader.take("(")
    return _numbers(reader)


def write_cloth(cloth):
    """Return the text of a cloth."""
    return line_of("cloth", [signs_of(row) for row in cloth])


def signs_of(row):
    """Return the row of signs for a row of a cloth."""
    return "".join(["#" if part == 1 else "-" for part in row])


def write_draft(draft):
    """Return the text of a draft."""
    threading, tieup, treadling = draft
    return (
        line_of("threading", _numerals(threading))
        + line_of("tieup", [in_parentheses(_numerals(shafts)) for shafts in tieup])
        + line_of("treadling", [in_parentheses(_numerals(treadles)) for treadles in treadling])
    )


def _numerals(numbers):
    return [str(number) for number in numbers]
