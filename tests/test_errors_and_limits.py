"""Points 5 and 6: the limits and the errors."""

import unittest

from hangstogether import errors, limits

WITH_REASON = ("ClothError", "DraftError", "ArgumentError", "PaperError", "LoomError", "TooMany")
ALL = (*WITH_REASON, "TextError", "LogError", "CommandError")


class LimitsTest(unittest.TestCase):
    def test_all_limits(self):
        told = {
            "MAX_ENDS": 24, "MAX_PICKS": 24, "MAX_SHAFTS": 16, "MAX_TREADLES": 16, "MAX_NAME": 12,
            "MAX_TEXT": 8000, "MAX_CHOICES": 400, "MAX_TIES": 200, "MAX_PIECE": 8, "MAX_PAIRS": 40,
            "MAX_JOBS": 9, "MAX_DEEP": 8, "MAX_UNITS": 8, "MAX_STACK": 4, "MAX_ROWS": 12, "MAX_COUNTED": 4,
            "MAX_FLOAT": 3, "MAX_LOG": 200, "MAX_WOVEN": 200, "MAX_FAULTS": 3, "MAX_GAP": 1000,
            "MAX_REPEATS": 100, "MAX_COIN": 1000000, "MAX_LENGTHS": 8, "MAX_CONES": 8, "MAX_NEAR": 7,
            "MAX_CARDS": 16, "MAX_STITCHES": 3, "MAX_STITCHED": 4, "MAX_HELD": 6, "MAX_BOXES": 3,
            "MAX_SHUTTLES": 3, "MAX_WEFTS": 6, "MAX_GREY": 255,
        }
        self.assertEqual({name: getattr(limits, name) for name in dir(limits) if name.startswith("MAX_")}, told)


class ErrorsTest(unittest.TestCase):
    def test_base(self):
        self.assertTrue(issubclass(errors.WeaveError, ValueError))
        for name in ALL:
            self.assertEqual(getattr(errors, name).__bases__, (errors.WeaveError,))

    def test_reasons(self):
        for name in WITH_REASON:
            error = getattr(errors, name)("form")
            self.assertEqual(error.reason, "form")
            self.assertEqual(getattr(errors, name)(reason="form").reason, "form")

    def test_other_attributes(self):
        self.assertEqual(errors.TextError(7).at, 7)
        self.assertEqual(errors.CommandError("x y").line, "x y")
        error = errors.LogError(3, "entry")
        self.assertEqual((error.number, error.reason), (3, "entry"))
        error = errors.LogError(number=4, reason="end")
        self.assertEqual((error.number, error.reason), (4, "end"))
