"""Points 34 to 36: floats."""

from hangstogether.errors import ArgumentError, ClothError
from hangstogether.floats import face_of, floats, interlacings, longest, too_long
from tests.helpers import WeaveTest, all_cloths, is_above, some_cloths, threads_in

TWILL = ((1, 1, 0), (0, 1, 1), (1, 0, 1))


def slow_floats(cloth, thread):
    """Return the floats of a thread, found by walking on from each crossing."""
    others = [other for other in threads_in(cloth) if other[0] != thread[0]]
    sides = [is_above(cloth, thread, other) for other in others]
    if len(set(sides)) == 1:
        return [(thread, 0, None, "face" if sides[0] else "back")]
    found = []
    for place, side in enumerate(sides):
        if sides[(place - 1) % len(sides)] != side:
            length = 1
            while sides[(place + length) % len(sides)] == side:
                length += 1
            found.append((thread, place, length, "face" if side else "back"))
    return found


class FloatsTest(WeaveTest):
    def test_example(self):
        self.assertEqual(longest(TWILL), (2, (("end", 0), 2, 2, "face")))

    def test_round_the_edge(self):
        self.assertEqual(
            floats(((1, 0, 1),)),
            (
                (("end", 0), 0, None, "face"), (("end", 1), 0, None, "back"), (("end", 2), 0, None, "face"),
                (("pick", 0), 1, 1, "face"), (("pick", 0), 2, 2, "back"),
            ),
        )
        self.assertEqual(floats(((1,), (0,), (0,), (1,)))[:2], (
            (("end", 0), 1, 2, "back"), (("end", 0), 3, 2, "face")))

    def test_all_floats(self):
        for cloth in all_cloths(1, 1) + all_cloths(2, 3) + all_cloths(3, 3) + some_cloths(16, 60, 9):
            told = [part for thread in threads_in(cloth) for part in slow_floats(cloth, thread)]
            self.assertEqual(floats(cloth), tuple(told))

    def test_longest(self):
        for cloth in all_cloths(3, 3) + some_cloths(17, 60, 6):
            told = floats(cloth)
            endless = [part for part in told if part[2] is None]
            if endless:
                self.assertEqual(longest(cloth), (None, endless[0]))
            else:
                most = max([part[2] for part in told])
                self.assertEqual(longest(cloth), (most, [part for part in told if part[2] == most][0]))
        self.assertEqual(longest(((0,),)), (None, (("end", 0), 0, None, "back")))

    def test_too_long(self):
        for cloth in all_cloths(3, 3) + some_cloths(18, 40, 6):
            for most in (1, 2, 3, 24):
                told = [part for part in floats(cloth) if part[2] is None or part[2] > most]
                self.assertEqual(too_long(cloth, most), tuple(told))
        self.assertEqual(too_long(TWILL, 2), ())
        self.assertEqual(len(too_long(TWILL, 1)), 6)

    def test_wrong_most(self):
        for most in (0, -1, 25, True, False, None, "1", (), (1,), [1], 10 ** 30):
            self.refuses(ArgumentError, "most", too_long, TWILL, most)
            self.refuses(ClothError, "form", too_long, None, most)
        self.stands_any_values(too_long, TWILL, 1)

    def test_face(self):
        self.assertEqual(face_of(TWILL), (6, 3))
        self.assertEqual(face_of(((0, 0, 1),)), (1, 2))
        self.assertEqual(face_of(((1, 0), (0, 1)) * 2), (4, 4))

    def test_interlacings(self):
        self.assertEqual(interlacings(TWILL), (2,) * 6)
        self.assertEqual(interlacings(((1, 0, 1),)), (0, 0, 0, 2))
        for cloth in all_cloths(2, 3) + some_cloths(19, 40, 8):
            told = [slow_floats(cloth, thread) for thread in threads_in(cloth)]
            self.assertEqual(interlacings(cloth), tuple([0 if row[0][2] is None else len(row) for row in told]))

    def test_no_cloth(self):
        for function in (floats, longest, face_of, interlacings):
            self.refuses(ClothError, "ends", function, ((1,), (1, 0)))
            self.stands_any_values(function, TWILL)
