"""Points 132 to 134: texts of answers."""

import random
import re

from hangstogether.cutting import strength
from hangstogether.errors import TextError
from hangstogether.layers import hangs_together
from hangstogether.papers import is_answer, read_answer, read_strength, write_answer, write_strength
from tests.helpers import ODD_VALUES, WeaveTest, some_cloths

ANSWER = "(apart (end 0) (pick 2))\n"
STRENGTH = (1, (("end", 0),), (("pick", 3), ("end", 1)), (((("end", 0), ("pick", 1)), ()), ()))
TEXT = "(strength 1)\n(cut (end 0))\n(lifted (pick 3) (end 1))\n(chains (chain (end 0) (pick 1)) (chain))\n(chains)\n"
WORDS = ("(", ")", "together", "apart", "strength", "cut", "lifted", "chains", "chain", "end", "pick", "x", "0", "7", "#", "-")


def tokens_in(text):
    return [(found.group(), found.start()) for found in re.finditer(r"[()]|[^()\s]+", text)]


# The forms as expressions over tokens, each with one space behind it.
THREAD = r"(?:\( (?:end|pick) \d+ \) )"
ANSWER_FORM = re.compile(rf"\( (?:together|apart) {THREAD}*\) ")
STRENGTH_FORM = re.compile(
    rf"\( strength \d+ \) \( cut {THREAD}*\) \( lifted {THREAD}*\) (?:\( chains (?:\( chain {THREAD}*\) )*\) )*"
)


def could_begin(kind, tokens):
    """Tell whether some text of a kind begins with these tokens."""
    grammar = {"answer": answer_grammar, "strength": strength_grammar}[kind]()
    allowed = next(grammar)
    for token in tokens:
        if not allowed(token):
            return False
        allowed = grammar.send(token)
    return True


def one_of(*words):
    return lambda token: token in words


def numeral(token):
    return token.isdigit()


def threads_grammar():
    """Take threads up to a closing parenthesis."""
    while True:
        token = yield one_of("(", ")")
        if token == ")":
            return
        yield one_of("end", "pick")
        yield numeral
        yield one_of(")")


def answer_grammar():
    yield one_of("(")
    yield one_of("together", "apart")
    yield from threads_grammar()
    while True:
        yield one_of()


def strength_grammar():
    yield one_of("(")
    yield one_of("strength")
    yield numeral
    yield one_of(")")
    for word in ("cut", "lifted"):
        yield one_of("(")
        yield one_of(word)
        yield from threads_grammar()
    while True:
        yield one_of("(")
        yield one_of("chains")
        while True:
            token = yield one_of("(", ")")
            if token == ")":
                break
            yield one_of("chain")
            yield from threads_grammar()


def first_wrong(kind, text):
    """Return the index that TextError tells for a text of right tokens, or None if it can be read."""
    found = tokens_in(text)
    words = [word for word, _ in found]
    for count in range(1, len(words) + 1):
        if not could_begin(kind, words[:count]):
            return found[count - 1][1]
    whole = {"answer": ANSWER_FORM, "strength": STRENGTH_FORM}[kind]
    return None if whole.fullmatch("".join([word + " " for word in words])) else len(text)


class PapersTest(WeaveTest):
    def stops(self, at, text, read):
        with self.assertRaises(TextError) as caught:
            read(text)
        self.assertIs(type(caught.exception), TextError)
        self.assertEqual(caught.exception.at, at)

    def reads(self, kind, text):
        """Ask that a text is read as it should be, or refused at the right index."""
        read = {"answer": read_answer, "strength": read_strength}[kind]
        at = first_wrong(kind, text)
        if at is None:
            read(text)
        else:
            self.stops(at, text, read)
        other = {"answer": "strength", "strength": "answer"}[kind]
        self.assertIs(is_answer(text), at is None or first_wrong(other, text) is None)


class WriteTest(PapersTest):
    def test_examples(self):
        self.assertEqual(write_answer(("apart", (("end", 0), ("pick", 2)))), ANSWER)
        self.assertEqual(read_answer("(together)"), ("together", ()))
        self.assertEqual(write_answer(("together", ())), "(together)\n")
        self.assertEqual(write_strength(STRENGTH), TEXT)
        self.assertEqual(write_strength((0, (), (), ())), "(strength 0)\n(cut)\n(lifted)\n")
        self.assertEqual(write_strength((2, (), (), ((),)))[-9:], "(chains)\n")

    def test_read_back(self):
        self.assertEqual(read_answer(ANSWER), ("apart", (("end", 0), ("pick", 2))))
        self.assertEqual(read_strength(TEXT), STRENGTH)
        self.assertEqual(read_strength("(strength 0)(cut)(lifted)"), (0, (), (), ()))
        for cloth in some_cloths(231, 60, 24):
            told = hangs_together(cloth)
            self.assertEqual(repr(read_answer(write_answer(told))), repr(told))
        for cloth in some_cloths(232, 60, 5):
            told = strength(cloth)
            text = write_strength(told)
            self.assertEqual(text.count("\n"), 3 + len(told[3]))
            if len(text) <= 8000:
                self.assertEqual(repr(read_strength(text)), repr(told))
                self.assertIs(is_answer(text), True)

    def test_lines(self):
        for text in (ANSWER, TEXT, write_answer(hangs_together(((1, 0), (0, 1)))), write_strength(strength(((1, 0), (0, 1))))):
            self.assertNotRegex(text, r"\( | \)|  |\) \n| \n|\n \n|\)\(|\A\s")
            self.assertTrue(text.endswith(")\n"))


class ReadTest(PapersTest):
    def test_any_spaces(self):
        chance = random.Random(233)
        for kind, text, told in (("answer", ANSWER, read_answer(ANSWER)), ("strength", TEXT, STRENGTH)):
            for _ in range(60):
                gap = lambda least: "".join(chance.choices(" \n", k=chance.randint(least, 3)))
                parts = [word if word in "()" else gap(1) + word + gap(1) for word, _ in tokens_in(text)]
                spaced = gap(0) + "".join([part + gap(0) for part in parts])
                read = {"answer": read_answer, "strength": read_strength}[kind]
                self.assertEqual(read(spaced), told)
            self.assertEqual(read(text.replace("\n", " ")), told)

    def test_changed_tokens(self):
        chance = random.Random(234)
        texts = [("answer", ANSWER), ("answer", "(together)"), ("strength", TEXT), ("strength", "(strength 7) (cut) (lifted)")]
        for kind, text in texts:
            words = [word for word, _ in tokens_in(text)]
            for place in range(len(words) + 1):
                changed = [words[:place] + words[place + 1:], words[:place + 1] + words[place:], words[:place]]
                changed.append(words[:place] + words[place:place + 2][::-1] + words[place + 2:])
                for word in WORDS:
                    changed.append(words[:place] + [word] + words[place:])
                    changed.append(words[:place] + [word] + words[place + 1:])
                for some in changed:
                    self.reads(kind, " ".join(some))
                    self.reads(kind, "".join([word + chance.choice(" \n") * chance.randint(1, 3) for word in some]))

    def test_tokens_that_cannot_stand(self):
        self.stops(0, "", read_answer)
        self.stops(3, " \n ", read_strength)
        self.stops(0, "together", read_answer)
        self.stops(1, "(Together)", read_answer)
        self.stops(1, TEXT, read_answer)
        self.stops(1, ANSWER, read_strength)
        self.stops(7, "(apart end 0)", read_answer)
        self.stops(12, "(apart (end x))", read_answer)
        self.stops(12, "(apart (end ))", read_answer)
        self.stops(14, "(apart (end 0 1))", read_answer)
        self.stops(11, "(together) (together)", read_answer)
        self.stops(10, "(together ", read_answer)
        self.stops(9, "(strength)(cut)(lifted)", read_strength)
        self.stops(14, "(strength 1) (lifted)", read_strength)
        self.stops(33, "(strength 1)(cut)(lifted)(chains(end 0))", read_strength)
        self.stops(26, "(strength 1)(cut)(lifted)(chain)", read_strength)
        self.stops(25, "(strength 1)(cut)(lifted)0", read_strength)

    def test_words_that_are_none(self):
        for word in ("01", "1a", "_", "-1", "a-", "1234567890", "?", "#a", "\t", "\r", "\u00e9"):
            self.stops(12, "(apart (end " + word + "))", read_answer)
            self.stops(14, "((((strength) " + word + " (", read_strength)
        self.assertEqual(read_answer("(apart (end 999999999))"), ("apart", (("end", 999999999),)))

    def test_longest(self):
        self.assertEqual(read_answer("(together)" + " " * 7990), ("together", ()))
        self.stops(0, "(together)" + " " * 7991, read_answer)
        text = "(strength 1)(cut)(lifted)" + "\n" * 7975
        self.assertEqual((len(text), read_strength(text)), (8000, (1, (), (), ())))
        self.stops(0, text + " ", read_strength)
        self.assertIs(is_answer(text), True)
        self.assertIs(is_answer(text + " "), False)
        many = "(together " + "(end 0)" * 1141 + ")"
        self.assertEqual((len(many), len(read_answer(many)[1])), (7998, 1141))
        deep = "(" * 8000
        self.stops(1, deep, read_answer)

    def test_what_is_no_string(self):
        for value in [*ODD_VALUES, b"(together)", ["(together)"], ("(together)",)]:
            if not isinstance(value, str):
                self.stops(0, value, read_answer)
                self.stops(0, value, read_strength)
            self.assertIs(is_answer(value), False)

    def test_is_answer(self):
        for text in (ANSWER, TEXT, "(together)", "(apart)", "(strength 5)(cut)(lifted)"):
            self.assertIs(is_answer(text), True)
        for text in ("", "(together", "(cloth #)", "(strength 5)", ANSWER + TEXT, TEXT + ANSWER, TEXT[:-2]):
            self.assertIs(is_answer(text), False)
