"""The tokens of texts, and a reader that takes them one by one."""

from hangstogether.errors import TextError
from hangstogether.limits import MAX_TEXT

# Written out, as letters and digits of other alphabets do not count.
LETTERS = "abcdefghijklmnopqrstuvwxyzABCDEFGHIJKLMNOPQRSTUVWXYZ"
DIGITS = "0123456789"
SIGNS = "#-"
IN_NAMES = LETTERS + DIGITS + "_"
IN_WORDS = IN_NAMES + SIGNS
LONGEST_NUMERAL = 9


def in_parentheses(words):
    """Return the text of words between parentheses."""
    return "(" + " ".join(words) + ")"


def line_of(name, parts):
    """Return the line of a name and further words between parentheses."""
    return in_parentheses([name, *parts]) + "\n"


def _consists_of(word, characters):
    return all([character in characters for character in word])


def is_name(word):
    """Tell whether a string is a name."""
    return word != "" and word[0] in LETTERS and _consists_of(word, IN_NAMES)


def is_numeral(word):
    """Tell whether a string is a numeral."""
    if not 1 <= len(word) <= LONGEST_NUMERAL or not _consists_of(word, DIGITS):
        return False
    return word == "0" or word[0] != "0"


def _kind_of_word(word):
    if is_name(word):
        return "name"
    if is_numeral(word):
        return "numeral"
    if _consists_of(word, SIGNS):
        return "signs"
    return None


def _end_of_word(text, at):
    while at < len(text) and text[at] in IN_WORDS:
        at += 1
    return at


def tokens_of(text):
    """Return the tokens of a text, triples of a kind, the word and the index of its first character."""
    if not isinstance(text, str) or len(text) > MAX_TEXT:
        raise TextError(0)
    tokens = []
    at = 0
    while at < len(text):
        if text[at] in " \n":
            at += 1
            continue
        if text[at] in "()":
            tokens.append((text[at], text[at], at))
            at += 1
            continue
        end = _end_of_word(text, at)
        kind = _kind_of_word(text[at:end])
        if end == at or kind is None:
            raise TextError(at)
        tokens.append((kind, text[at:end], at))
        at = end
    return tokens


class Reader:
    """Takes the tokens of a text one by one, and raises TextError for one that cannot stand there."""

    def __init__(self, text):
        self.tokens = tokens_of(text)
        self.tokens.append(("end", "", len(text)))
        self.place = 0

    def kind(self):
        """Return the kind of the token that comes next: a parenthesis, "name", "numeral", "signs" or "end"."""
        return self.tokens[self.place][0]

    def take(self, kind):
        """Take the next token, which must be of a kind, and return its word."""
        found, word, at = self.tokens[self.place]
        if found != kind:
            raise TextError(at)
        self.place += 1
        return word

    def begin(self, *names):
        """Take an opening parenthesis and one of these names, and return the name."""
        self.take("(")
        _, word, at = self.tokens[self.place]
        if word not in names:
            raise TextError(at)
        self.place += 1
        return word

    def rest(self, kind, take_part):
        """Take all parts that begin with a kind of token, by a function, and the closing parenthesis behind them."""
        parts = []
        while self.kind() == kind:
            parts.append(take_part(self))
        self.take(")")
        return tuple(parts)

    def numeral(self):
        """Take a numeral and return its number."""
        return int(self.take("numeral"))

    def finish(self):
        """Take nothing, but make sure that the text ends here."""
        if self.kind() != "end":
            raise TextError(self.tokens[self.place][2])
