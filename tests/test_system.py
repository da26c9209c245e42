"""Points 91 to 93: sessions."""

import itertools
import random

from hangstogether import (
    contrast, cutting, doubling, drafts, families, faults, floats, layers, nearest, pegs, pressing, steps, stitching,
    sums, tiles, turns, yarn,
)
from hangstogether.errors import ArgumentError, ClothError, CommandError, DraftError, TextError, TooMany, WeaveError
from hangstogether.system import Session
from hangstogether.words import write_cloth, write_draft
from tests.helpers import ODD_VALUES, WeaveTest, some_cloths

PLAIN = ((1, 0), (0, 1))
APART = ((1, 1), (1, 0))
TWILL = ((1, 1, 0), (0, 1, 1), (1, 0, 1))
ROUND = ((1, 1, 0, 0), (0, 1, 1, 0), (0, 0, 1, 1), (1, 0, 0, 1))
PAIRED = ((1, 1, 0, 0), (1, 1, 0, 0), (0, 0, 1, 1), (0, 0, 1, 1))
WIDE = ((1, 0, 1, 0, 1, 0, 1, 0, 1, 0),) * 3
DRAFT = ((0, 1, 0), ((0,), (1,), ()), ((0,), (1,), (0,), (2,)))

# The words behind the first word, and the numerals at the ends of their ranges.
FORMS = {
    "cloth": "C", "draft": "D", "show": "C", "weave": "D N", "draw": "C N", "needs": "C", "treadles": "C",
    "layers": "C", "hangs": "C", "strength": "C", "weak": "C", "stitches": "C 0-3", "float": "C", "bends": "C",
    "family": "C", "lattice": "C", "same": "C C", "switches": "C C", "repeat": "C N", "beside": "C C N",
    "behind": "C C N", "stack": "C C N", "piece": "C 0-24 0-24 1-24 1-24 N",
    "turn": "C 0-1 0-1 0-1 0-1 0-24 0-24 N", "near": "C 1-16", "faults": "D C", "steps": "D", "pegs": "D",
    "contrast": "C",
}
NO_NAMES = ("", " ", "1", "1a", "_", "_a", "a b", "a-b", "a#", "#", "a\n", "\u00e9", "a\u0661")
NO_NUMERALS = ("", "00", "01", "-1", "+1", "1 ", "x", "none", "1.0", "\u0661", "1234567890", "#", "1_0")


def session():
    made = Session()
    for name, cloth in (("p", PLAIN), ("a", APART), ("t", TWILL), ("w", WIDE)):
        made.load_cloth(name, write_cloth(cloth))
    made.load_draft("d", write_draft(DRAFT))
    return made


def right_words(form, chance=None):
    """Return words of a form, for numerals the least or any of the range."""
    words = []
    for part in form.split(" "):
        if part in ("C", "D", "N"):
            words.append({"C": "p", "D": "d", "N": "n"}[part])
        else:
            least, most = map(int, part.split("-"))
            words.append(str(chance.randint(least, most) if chance else least))
    return words


def kept(made):
    """Return all that a session keeps under the names that are used here."""
    found = []
    for word, name in itertools.product(("cloth", "draft"), ("p", "a", "t", "w", "d", "n", "x")):
        try:
            found.append(made.answer(word + " " + name))
        except CommandError:
            found.append(None)
    return found


def threads_told(threads):
    return "".join([" " + kind[0] + str(number) for kind, number in threads])


class SessionTest(WeaveTest):
    def refuses_line(self, line):
        made = session()
        before = list(made)
        with self.assertRaises(CommandError) as caught:
            made.answer(line)
        self.assertIs(type(caught.exception), CommandError)
        self.assertEqual(repr(caught.exception.line), repr(line))
        self.assertEqual(list(made), before)
        self.assertEqual(kept(made), kept(session()))

    def says(self, line, *lines):
        made = session()
        told = made.answer(line)
        self.assertEqual(told, lines)
        self.assertIsInstance(told, tuple)
        self.assertEqual((len(made), list(made)), (len(lines), list(lines)))


class LinesTest(SessionTest):
    def test_cloths_and_drafts(self):
        self.says("cloth p", "(cloth #- -#)")
        self.says("draft d", "(threading 0 1 0)", "(tieup (0) (1) ())", "(treadling (0) (1) (0) (2))")
        self.says("show t", "##-", "-##", "#-#")

    def test_drafts(self):
        self.says("weave d n", "size 4 3")
        self.says("draw p n", "shafts 2 treadles 2")
        self.says("draw w n", "shafts 2 treadles 1")
        self.says("needs w", "needs 2 1")
        self.says("treadles t", "treadles 3")
        self.says("treadles w", "treadles 1")

    def test_layers(self):
        self.says("layers p", "layer e0 e1 p0 p1")
        self.says("layers a", "layer e0", "layer p1", "layer e1", "layer p0")
        self.says("hangs p", "together")
        self.says("hangs a", "apart e0")
        self.says("strength p", "strength 1")
        self.says("strength a", "strength 0")
        self.says("weak p", "weak e0 e1 p0 p1")
        self.says("weak t", "weak" + threads_told([thread for thread, _ in cutting.weak_threads(TWILL)]))
        self.says("stitches a 3", "stitches 1")
        self.says("stitches a 0", "none")
        self.says("stitches t 0", "stitches 0")

    def test_no_weak_threads(self):
        made = session()
        made.load_cloth("f", write_cloth(ROUND))
        self.assertEqual(cutting.weak_threads(ROUND), ())
        self.assertEqual(made.answer("weak f"), ("weak",))

    def test_floats_and_bends(self):
        self.says("float t", "float 2 e0 2 face")
        self.says("float a", "float none e0 0 face")
        self.says("float w", "float none e0 0 face")
        self.says("bends p", "bends 2 2 2 2")
        self.says("bends a", "bends 0 2 0 2")

    def test_families(self):
        self.says("family t", "twill 1 2 1")
        self.says("family p", "plain")
        self.says("family a", "other")
        made = session()
        for name, cloth in (("b", ((1, 1),)), ("c", ((0,),)), ("s", families.satin(5, 2)), ("k", families.twill((3, 1, 1, 2), 2))):
            made.load_cloth(name, write_cloth(cloth))
        self.assertEqual(made.answer("family b"), ("bare 1",))
        self.assertEqual(made.answer("family c"), ("bare 0",))
        self.assertEqual(made.answer("family s"), ("satin 1 2",))
        self.assertEqual(made.answer("family k"), ("twill 2 3 1 1 2",))

    def test_two_cloths(self):
        self.says("lattice t", "lattice 3 1 1")
        self.says("lattice w", "lattice 2 1 0")
        self.says("same p p", "same 0 0 0 0 0 0")
        self.says("same a t", "unlike")
        self.says("switches p p", "linked")
        self.says("switches p a", "unlike")
        self.says("switches p t", "unlike")
        made = session()
        made.answer("turn t 1 0 1 1 2 1 n")
        way, picks, ends = turns.compare(TWILL, turns.turned(TWILL, ((1, 0, 1, 1), 2, 1)))[1]
        self.assertEqual(made.answer("same t n"), (f"same {way[0]} {way[1]} {way[2]} {way[3]} {picks} {ends}",))

    def test_kept_cloths(self):
        for line, cloth in (
            ("weave d n", drafts.woven(DRAFT)), ("repeat w n", ((1, 0),)), ("beside p a n", ((1, 0, 1, 1), (0, 1, 1, 0))),
            ("behind p a n", PLAIN + APART), ("stack p a n", doubling.stacked((PLAIN, APART))),
            ("piece t 1 2 2 4 n", tiles.piece(TWILL, 1, 2, 2, 4)),
            ("piece t 24 24 24 24 n", tiles.piece(TWILL, 24, 24, 24, 24)),
            ("turn a 1 0 1 0 1 24 n", turns.turned(APART, ((1, 0, 1, 0), 1, 24))),
            ("turn a 0 1 0 1 24 0 n", turns.turned(APART, ((0, 1, 0, 1), 24, 0))),
            ("piece a 0 0 1 1 a_long_name_of_more_than_12", ((1,),)),
        ):
            made = session()
            self.assertEqual(made.answer(line), (f"size {len(cloth)} {len(cloth[0])}",))
            self.assertEqual(made.answer("cloth " + line.split(" ")[-1]), (write_cloth(cloth)[:-1],))
            self.assertEqual(len(made), 2)

    def test_kept_in_the_place_of_another_one(self):
        made = session()
        made.answer("repeat w w")
        self.assertEqual(made.answer("show w"), ("#-",))
        made.answer("beside p p p")
        made.answer("beside p p p")
        self.assertEqual(made.answer("show p"), ("#-#-#-#-", "-#-#-#-#"))
        made.answer("draw a d")
        self.assertEqual(made.answer("draft d"), tuple(write_draft(drafts.drawn(APART)).split("\n")[:-1]))

    def test_cloths_beside_drafts(self):
        # A cloth and a draft may have one name.
        made = session()
        made.answer("weave d d")
        self.assertEqual(made.answer("show d"), ("#-#", "-#-", "#-#", "---"))
        self.assertEqual(len(made.answer("draft d")), 3)
        made.answer("draw p p")
        self.assertEqual(made.answer("show p"), ("#-", "-#"))
        self.assertEqual(made.answer("draft p")[0], "(threading 0 1)")

    def test_far_parts(self):
        self.says("near t 1", "wrong 3")
        self.says("near t 3", "wrong 0")
        self.says("near p 16", "wrong 0")
        self.says("steps d", "steps 4")
        self.says("pegs d", "pegs " + str(pegs.shortest(pegs.plan_of(DRAFT))[0]))
        self.says("contrast w", "colours 2")
        self.says("contrast a", "colours 2")
        made = session()
        for name, cloth, told in (
            ("one", ((1,), (0,)), "colours 1"), ("two", ((1, 0, 0),), "none"), ("ends", ((1, 1, 0, 1, 1),), "colours 2"),
            ("round", ((0, 1, 0),), "colours 2"), ("rows", ((1, 1, 1), (0, 0, 0)), "colours 2"),
        ):
            made.load_cloth(name, write_cloth(cloth))
            self.assertEqual(made.answer("contrast " + name), (told,))

    def test_faults(self):
        made = session()
        for name, cloth, told in (
            ("right", drafts.woven(DRAFT), "faults 0"), ("one", ((1, 0, 0), (0, 1, 1), (1, 0, 0), (0, 0, 0)), "faults 1"),
            ("none", ((0, 1, 0), (1, 0, 1), (0, 1, 0), (1, 1, 1)), "none"),
        ):
            made.load_cloth(name, write_cloth(cloth))
            self.assertEqual(made.answer("faults d " + name), (told,))


class AnswersTest(SessionTest):
    def expected(self, word, cloth):
        """Return the lines that answer a word and one cloth, from what the functions return."""
        found = {
            "needs": lambda: "needs %d %d" % drafts.needs(cloth),
            "treadles": lambda: "treadles %d" % pressing.fewest_treadles(cloth)[0],
            "strength": lambda: "strength %d" % cutting.strength(cloth)[0],
            "weak": lambda: "weak" + threads_told([thread for thread, _ in cutting.weak_threads(cloth)]),
            "bends": lambda: "bends " + " ".join(map(str, yarn.bends(cloth))),
            "lattice": lambda: "lattice %d %d %d" % tiles.lattice(cloth),
            "near": lambda: "wrong %d" % nearest.nearest(cloth, 2)[0],
        }
        return (found[word](),)

    def test_some_cloths(self):
        for cloth in some_cloths(191, 60, 7):
            made = Session()
            made.load_cloth("c", write_cloth(cloth))
            for word in ("needs", "treadles", "strength", "weak", "bends", "lattice", "near"):
                line = word + " c" + (" 2" if word == "near" else "")
                self.assertEqual(made.answer(line), self.expected(word, cloth))
            self.assertEqual(made.answer("layers c"), tuple(["layer" + threads_told(layer) for layer in layers.layers(cloth)]))
            told = layers.hangs_together(cloth)
            self.assertEqual(made.answer("hangs c"), ("together" if told[0] == "together" else "apart" + threads_told(told[1]),))
            length, ((kind, number), place, _, side) = floats.longest(cloth)
            length = "none" if length is None else length
            self.assertEqual(made.answer("float c"), (f"float {length} {kind[0]}{number} {place} {side}",))
            self.assertEqual(made.answer("show c"), tuple(write_cloth(cloth)[7:-2].split(" ")))

    def test_two_cloths(self):
        # The last two have the same sums, but are not the same.
        cloths = [*some_cloths(192, 24, 3), ROUND, tuple(sorted(ROUND)), PAIRED]
        answers = set()
        for first, second in itertools.product(cloths, repeat=2):
            made = Session()
            made.load_cloth("one", write_cloth(first))
            made.load_cloth("other", write_cloth(second))
            told = turns.compare(first, second)
            line = "unlike"
            if told[0] == "same":
                (way, picks, ends), line = told[1], "same"
                line = " ".join(["same", *map(str, way), str(picks), str(ends)])
            self.assertEqual(made.answer("same one other"), (line,))
            linked = sums.switches_between(first, second) is not None
            self.assertEqual(made.answer("switches one other"), ("linked" if linked else "unlike",))
            answers.add((line[:4], linked))
        self.assertEqual(len(answers), 4)

    def test_drafts(self):
        chance = random.Random(193)
        for cloth in some_cloths(194, 40, 6):
            draft = drafts.drawn(cloth)
            made = Session()
            made.load_draft("d", write_draft(draft))
            made.load_cloth("c", write_cloth(cloth))
            self.assertEqual(made.answer("steps d"), ("steps " + str(steps.fewest_steps(draft)[0]),))
            self.assertEqual(made.answer("pegs d"), ("pegs " + str(pegs.shortest(pegs.plan_of(draft))[0]),))
            self.assertEqual(made.answer("faults d c"), ("faults 0",))
            rows = [list(row) for row in cloth]
            for _ in range(chance.randint(1, 3)):
                row = chance.choice(rows)
                row[chance.randrange(len(row))] ^= 1
            other = tuple(map(tuple, rows))
            made.load_cloth("c", write_cloth(other))
            told = faults.faults(draft, other, 3)
            self.assertEqual(made.answer("faults d c"), ("none" if told[0] == "none" else f"faults {len(told[1])}",))
            small = tuple([row[:4] for row in other[:4]])
            made.load_cloth("c", write_cloth(small))
            for most in range(4):
                told = stitching.fewest_stitches(small, most)
                self.assertEqual(
                    made.answer(f"stitches c {most}"), ("none" if told is None else f"stitches {len(told)}",)
                )

    def test_contrast(self):
        for cloth in some_cloths(195, 60, 8):
            made = Session()
            made.load_cloth("c", write_cloth(cloth))
            pairs = tuple([((0, end), (0, end + 1)) for end in range(len(cloth[0]) - 1)])
            told = contrast.fewest_colours(cloth, pairs)
            self.assertEqual(made.answer("contrast c"), ("none" if told is None else f"colours {told[0]}",))


class FormsTest(SessionTest):
    def test_right_words(self):
        chance = random.Random(196)
        for word, form in FORMS.items():
            for _ in range(1 if "-" not in form else 20):
                made = session()
                line = " ".join([word, *right_words(form, chance)])
                try:
                    made.answer(line)
                except (ArgumentError, TooMany):
                    self.assertEqual(len(made), 0)

    def test_names_that_are_not_kept(self):
        for word, form in FORMS.items():
            words = right_words(form)
            for place, part in enumerate(form.split(" ")):
                if part in ("C", "D"):
                    others = ("x", "P", "pp", "d" if part == "C" else "p", "0", *NO_NAMES)
                    for other in others:
                        self.refuses_line(" ".join([word, *words[:place], other, *words[place + 1:]]))

    def test_new_names(self):
        for word, form in FORMS.items():
            if form.endswith("N"):
                words = right_words(form)
                for name in NO_NAMES:
                    self.refuses_line(" ".join([word, *words[:-1], name]))
                made = session()
                made.answer(" ".join([word, *words[:-1], "Z9_" * 1000]))
                self.assertEqual(len(made), 1)

    def test_words_missing_and_too_many(self):
        for word, form in FORMS.items():
            words = right_words(form)
            for count in range(len(words)):
                self.refuses_line(" ".join([word, *words[:count]]))
            for further in ("p", "d", "0", "n"):
                self.refuses_line(" ".join([word, *words, further]))

    def test_numerals(self):
        for word, form in FORMS.items():
            words = right_words(form)
            for place, part in enumerate(form.split(" ")):
                if "-" not in part:
                    continue
                least, most = map(int, part.split("-"))
                for other in (*NO_NUMERALS, str(least - 1), str(most + 1), "999999999"):
                    self.refuses_line(" ".join([word, *words[:place], other, *words[place + 1:]]))
                for number in (least, most):
                    made = session()
                    made.answer(" ".join([word, *words[:place], str(number), *words[place + 1:]]))
                    self.assertEqual(len(made), 1)

    def test_spaces(self):
        for word, form in FORMS.items():
            line = " ".join([word, *right_words(form)])
            for wrong in (" " + line, line + " ", line.replace(" ", "  ", 1), line.replace(" ", "\t", 1), line + "\n"):
                self.refuses_line(wrong)
            self.refuses_line(line.replace(" ", "\n", 1))
            self.refuses_line(line.upper())
        for line in ("", " ", "  ", "\n", "p", "quit", "size 2 2", "together"):
            self.refuses_line(line)

    def test_what_is_no_string(self):
        for value in ODD_VALUES:
            if not isinstance(value, str):
                self.refuses_line(value)
        for value in (b"cloth p", ["cloth", "p"], ("cloth", "p")):
            self.refuses_line(value)


class ErrorsTest(SessionTest):
    def raises(self, error, reason, line, made=None):
        # A session without members is empty, and so is not true.
        made = session() if made is None else made
        told = list(made)
        self.refuses(error, reason, made.answer, line)
        self.assertEqual(list(made), told)

    def test_what_functions_raise(self):
        self.raises(ArgumentError, "size", "strength w")
        self.raises(ArgumentError, "size", "weak w")
        self.raises(ArgumentError, "size", "stitches w 1")
        self.raises(ArgumentError, "size", "near w 2")
        self.raises(ArgumentError, "picks", "beside p t n")
        self.raises(ArgumentError, "ends", "behind p t n")
        self.raises(ArgumentError, "cloths", "stack p t n")
        self.raises(ArgumentError, "cloth", "faults d p")

    def test_too_many(self):
        made = session()
        made.load_cloth("l", write_cloth(((1, 0) * 12, (0, 1) * 12) * 12))
        self.raises(TooMany, "ends", "beside l l n", made)
        self.raises(TooMany, "picks", "behind l l n", made)
        self.raises(TooMany, "size", "stack l l n", made)
        shafts = tuple([tuple([1 if end == pick else 0 for end in range(17)]) for pick in range(17)])
        made.load_cloth("s", write_cloth(shafts))
        self.raises(TooMany, "shafts", "draw s n", made)
        self.raises(TooMany, "shafts", "treadles s", made)
        made.load_cloth("r", write_cloth(tuple(itertools.islice(itertools.product((0, 1), repeat=5), 17))))
        self.raises(TooMany, "treadles", "draw r n", made)
        made.load_draft("f", "(threading 0)(tieup (0) (0) (0))(treadling (0 1 2))")
        self.raises(ArgumentError, "feet", "steps f", made)

    def test_nothing_is_kept(self):
        for line in ("beside p t n", "stack p t n", "behind p t n"):
            made = session()
            with self.assertRaises(WeaveError):
                made.answer(line)
            self.assertEqual((len(made), kept(made)), (0, kept(session())))


class LoadTest(SessionTest):
    def refuses_load(self, error, attribute, value, load, name, text):
        made = session()
        with self.assertRaises(error) as caught:
            getattr(made, load)(name, text)
        self.assertIs(type(caught.exception), error)
        self.assertEqual(repr(getattr(caught.exception, attribute)), repr(value))
        self.assertEqual(len(made), 0)
        self.assertEqual(kept(made), kept(session()))

    def test_names(self):
        for load, text in (("load_cloth", "(cloth #)"), ("load_draft", write_draft(DRAFT))):
            for name in (*NO_NAMES, *[value for value in ODD_VALUES if not isinstance(value, str)]):
                self.refuses_load(CommandError, "line", name, load, name, text)
                self.refuses_load(CommandError, "line", name, load, name, None)
                self.refuses_load(CommandError, "line", name, load, name, "(cloth)")
            for name in ("x", "Z", "a_1", "x" * 20000):
                made = Session()
                self.assertIsNone(getattr(made, load)(name, text))
                self.assertEqual((len(made), list(made)), (0, []))
                self.assertGreater(len(made.answer(load[5:] + " " + name)), 0)

    def test_texts(self):
        self.refuses_load(TextError, "at", 0, "load_cloth", "n", None)
        self.refuses_load(TextError, "at", 7, "load_cloth", "n", "(cloth ?)")
        self.refuses_load(TextError, "at", 1, "load_cloth", "n", write_draft(DRAFT))
        self.refuses_load(TextError, "at", 9, "load_cloth", "n", "(cloth ) ((")
        self.refuses_load(TextError, "at", 1, "load_draft", "p", "(cloth #)")
        self.refuses_load(TextError, "at", 0, "load_draft", "n", 7)
        self.refuses_load(TextError, "at", 0, "load_draft", "d", " " * 8001)

    def test_checks(self):
        self.refuses_load(ClothError, "reason", "picks", "load_cloth", "p", "(cloth)")
        self.refuses_load(ClothError, "reason", "ends", "load_cloth", "n", "(cloth # ##)")
        self.refuses_load(ClothError, "reason", "ends", "load_cloth", "n", "(cloth " + "#" * 25 + ")")
        self.refuses_load(DraftError, "reason", "threading", "load_draft", "d", "(threading)(tieup)(treadling)")
        self.refuses_load(DraftError, "reason", "tieup", "load_draft", "n", "(threading 0)(tieup (1 0))(treadling ())")
        self.refuses_load(DraftError, "reason", "treadling", "load_draft", "n", "(threading 0)(tieup)(treadling (0))")

    def test_known_names(self):
        made = session()
        made.load_cloth("p", "(cloth\n #\n -\n)\n")
        self.assertEqual(made.answer("show p"), ("#", "-"))
        made.load_draft("d", "(threading 3) (tieup) (treadling ())")
        self.assertEqual(made.answer("draft d"), ("(threading 3)", "(tieup)", "(treadling ())"))
        made.load_cloth("d", "(cloth #)")
        made.load_draft("p", "(threading 3) (tieup) (treadling ())")
        self.assertEqual(made.answer("show p") + made.answer("show d"), ("#", "-", "#"))


class MembersTest(SessionTest):
    def test_order(self):
        made = session()
        self.assertEqual((len(made), list(made)), (0, []))
        told = []
        for line in ("show t", "hangs p", "nothing", "layers a", "strength w", "weave d n", "draw t n", "show n", "", "draft n"):
            try:
                told.extend(made.answer(line))
            except WeaveError:
                self.assertIn(line, ("nothing", "strength w", ""))
            self.assertEqual((len(made), list(made)), (len(told), told))
            # It can be walked through again, also twice at once.
            self.assertEqual(list(zip(made, made)), list(zip(told, told)))
        self.assertEqual(len(told), 3 + 1 + 4 + 1 + 1 + 4 + 3)

    def test_two_sessions(self):
        one, other = session(), session()
        one.answer("repeat w w")
        one.load_cloth("p", "(cloth #)")
        self.assertEqual((len(other), other.answer("show p"), len(other.answer("show w"))), (0, ("#-", "-#"), 3))
        self.assertEqual(len(one), 1)

    def test_what_was_returned_stays(self):
        made = session()
        told = made.answer("show p")
        made.answer("show t")
        self.assertEqual(told, ("#-", "-#"))
