"""Points 10 to 13: reading and writing."""

from hangstogether.errors import TextError
from hangstogether.words import read_cloth, read_draft, write_cloth, write_draft
from tests.helpers import ODD_VALUES, WeaveTest, some_cloths

CLOTH = "(cloth #- -#)"
DRAFT = "(threading 0 0 1) (tieup (0) () (0 1)) (treadling (0) (0 2) ())"


class WordsTest(WeaveTest):
    def stops(self, at, text, read=read_cloth):
        with self.assertRaises(TextError) as caught:
            read(text)
        self.assertEqual(caught.exception.at, at)
        self.assertIs(type(caught.exception.at), int)

    def test_examples(self):
        self.assertEqual(read_cloth(CLOTH), ((1, 0), (0, 1)))
        self.assertEqual(write_cloth(((1, 0, 0),)), "(cloth #--)\n")

    def test_cloths_that_are_none(self):
        self.assertEqual(read_cloth("(cloth)"), ())
        self.assertEqual(read_cloth("(cloth # --)"), ((1,), (0, 0)))
        self.assertEqual(read_cloth("(cloth " + "#" * 30 + ")"), ((1,) * 30,))
        self.assertEqual(len(read_cloth("(cloth" + " -" * 30 + ")")), 30)

    def test_drafts(self):
        self.assertEqual(read_draft(DRAFT), ((0, 0, 1), ((0,), (), (0, 1)), ((0,), (0, 2), ())))
        self.assertEqual(read_draft("(threading)(tieup)(treadling)"), ((), (), ()))
        self.assertEqual(
            read_draft("(threading 99 123456789) (tieup (3 1 1)) (treadling (7))"),
            ((99, 123456789), ((3, 1, 1),), ((7,),)),
        )

    def test_spaces_and_line_feeds(self):
        self.assertEqual(read_cloth("\n  (\n\ncloth\n#-   -#\n) \n"), ((1, 0), (0, 1)))
        self.assertEqual(
            read_draft("(threading 0\n)(tieup(0)( )(0\n1))(treadling(0)(0 1)( \n ))"),
            ((0,), ((0,), (), (0, 1)), ((0,), (0, 1), ())),
        )
        for space in ("\t", "\r", "\x0b", "\x0c", "\x00", "\u00a0", "\u2003"):
            self.stops(6, "(cloth" + space + "#)")

    def test_no_string(self):
        for value in ODD_VALUES + (b"(cloth #)",):
            for read in (read_cloth, read_draft):
                if not isinstance(value, str):
                    self.stops(0, value, read)

    def test_length(self):
        for length in (8000, 8001):
            text = "(cloth" + " " * (length - 8) + "#)"
            self.assertEqual(len(text), length)
            if length == 8000:
                self.assertEqual(read_cloth(text), ((1,),))
            else:
                self.stops(0, text)
        self.stops(7, "(cloth ?" + " " * 7992)
        self.stops(0, "(cloth ?" + " " * 7993)
        self.stops(0, " " * 8001, read_draft)
        self.stops(8000, " " * 8000, read_draft)

    def test_signs_of_no_token(self):
        for sign in "!\"$%&'*+,./:;<=>?@[\\]^`{|}~\u00e9\u0661\u00b2\ud800":
            self.stops(7, "(cloth " + sign + ")")
            self.stops(8, "(cloth #" + sign + ")")
            self.stops(1, "(" + sign + "cloth)", read_draft)

    def test_words_that_are_none(self):
        words = ("_", "_a", "-a", "a-b", "a#", "#a", "01", "00", "1a", "1_", "-1", "1-", "1#", "1234567890", "#_", "0x")
        for word in words:
            self.stops(7, "(cloth " + word + ")")
            self.stops(11, "(threading " + word + ")", read_draft)

    def test_words_that_may_not_stand_there(self):
        for word in ("a", "Z9_x", "0", "10", "999999999", "(", "clothes" * 5):
            self.stops(9, "(cloth # " + word + " #)")
        for word in ("a", "#", "-", "(", "-#-"):
            self.stops(13, "(threading 0 " + word + ")", read_draft)

    def test_lexical_faults_go_ahead(self):
        self.stops(10, "(cloth 7 #?)")
        self.stops(6, ") ) ) a-b (")
        self.stops(10, "(cloth) x 01 ?")
        self.stops(4, "9 9 ? 01")
        self.stops(9, "(cloth # 01", read_cloth)
        self.stops(20, "(cloth #) (cloth #) 00")

    def test_first_token_that_cannot_stand(self):
        self.stops(0, "cloth")
        self.stops(1, "(threading 0)")
        self.stops(1, "(Cloth)")
        self.stops(1, "(())")
        self.stops(1, "(#)")
        self.stops(10, "(cloth #) )")
        self.stops(9, " (cloth) #")
        self.stops(1, CLOTH, read_draft)
        self.stops(15, "(threading 0) (treadling)", read_draft)
        self.stops(14, "(threading 0) tieup", read_draft)
        self.stops(20, "(threading) (tieup (a))", read_draft)
        self.stops(19, "(threading) (tieup 0)", read_draft)
        self.stops(20, "(threading) (tieup ((0)))", read_draft)
        self.stops(len(DRAFT) + 1, DRAFT + " (", read_draft)

    def test_text_that_ends_too_early(self):
        for read, text in ((read_cloth, CLOTH), (read_draft, DRAFT)):
            for length in range(len(text)):
                part = text[:length]
                # A name that is cut off is another name, which stops the reading at its beginning.
                word = part.replace("(", " ").split(" ")[-1]
                cut_off = word.isalpha() and word not in ("cloth", "threading", "tieup", "treadling")
                self.stops(length - len(word) if cut_off else length, part, read)
        self.stops(3, " \n ")
        self.stops(0, "")

    def test_writing(self):
        self.assertEqual(write_cloth(((1, 0), (0, 1), (1, 1))), "(cloth #- -# ##)\n")
        self.assertEqual(
            write_draft(((0, 0, 1), ((0,), (), (0, 1)), ((0,), (0, 2), ()))),
            "(threading 0 0 1)\n(tieup (0) () (0 1))\n(treadling (0) (0 2) ())\n",
        )
        self.assertEqual(write_draft(((12,), (), ((),))), "(threading 12)\n(tieup)\n(treadling ())\n")

    def test_writing_does_not_check(self):
        self.assertEqual(write_cloth(()), "(cloth)\n")
        self.assertEqual(write_cloth(((1,) * 30, (0,))), "(cloth " + "#" * 30 + " -)\n")
        self.assertEqual(write_draft(((), (), ())), "(threading)\n(tieup)\n(treadling)\n")
        self.assertEqual(write_draft(((99,), ((1, 0),), ())), "(threading 99)\n(tieup (1 0))\n(treadling)\n")

    def test_there_and_back(self):
        for cloth in some_cloths(1, 40, 24):
            self.assertEqual(read_cloth(write_cloth(cloth)), cloth)
        large = ((15,) * 24, (tuple(range(16)),) * 16, (tuple(range(16)),) * 24)
        self.assertEqual(read_draft(write_draft(large)), large)
