"""Texts of answers that tell whether a cloth hangs together, and of its strength."""

from hangstogether.errors import TextError
from hangstogether.tokens import Reader, in_parentheses, line_of


def write_answer(told):
    """Return the text of an answer of hangs_together."""
    word, threads = told
    return line_of(word, _texts_of(threads))


def write_strength(told):
    """Return the text of an answer of strength."""
    number, cut, lifted, paper = told
    lines = [
        line_of("strength", [str(number)]),
        line_of("cut", _texts_of(cut)),
        line_of("lifted", _texts_of(lifted)),
        *[line_of("chains", [in_parentheses(["chain", *_texts_of(chain)]) for chain in part]) for part in paper],
    ]
    return "".join(lines)


def _texts_of(threads):
    return [in_parentheses([kind, str(number)]) for kind, number in threads]


def read_answer(text):
    """Return the answer of hangs_together that a text tells."""
    reader = Reader(text)
    word = reader.begin("together", "apart")
    threads = _threads(reader)
    reader.finish()
    return word, threads


def read_strength(text):
    """Return the answer of strength that a text tells."""
    reader = Reader(text)
    reader.begin("strength")
    number = reader.numeral()
    reader.take(")")
    reader.begin("cut")
    cut = _threads(reader)
    reader.begin("lifted")
    lifted = _threads(reader)
    paper = []
    while reader.kind() == "(":
        reader.begin("chains")
        paper.append(reader.rest("(", _chain))
    reader.finish()
    return number, cut, lifted, tuple(paper)


def _threads(reader):
    return reader.rest("(", _thread)


def _thread(reader):
    kind = reader.begin("end", "pick")
    number = reader.numeral()
    reader.take(")")
    return kind, number


def _chain(reader):
    reader.begin("chain")
    return _threads(reader)


def is_answer(text):
    """Tell whether a value is the text of an answer."""
    return _tells_answer(text) or _tells_strength(text)


def _tells_answer(text):
    try:
        read_answer(text)
    except TextError:
        return False
    return True


def _tells_strength(text):
    try:
        read_strength(text)
    except TextError:
        return False
    return True
