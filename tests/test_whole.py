"""Points 1, 6 and 7, over all functions of the interface."""

import importlib
import unittest

from hangstogether.errors import ClothError, DraftError, WeaveError
from tests.helpers import ODD_VALUES
from tests.test_interface import FUNCTIONS

# Functions that tell whether a value is one, or that do not ask.
FREE = ("is_cloth", "is_draft", "write_cloth", "write_draft")
# Functions whose first argument is called `first`, but is no cloth.
OTHERS = ("change", "joined")
WRONG_CLOTHS = (
    (None, "form"), (((1, 0), None), "form"), ((), "picks"), (((),), "ends"), (((1, 0), (1,)), "ends"),
    (((1, 0), (1, True)), "crossing"), (((1, 2), (1, 0)), "crossing"), (((),) * 25, "picks"), (((2,) * 25,), "ends"),
)
WRONG_DRAFTS = (
    (None, "form"), (((), ()), "form"), (((), (), None), "form"), (((), None, ()), "form"), (((), (), ()), "threading"),
    (((16,), ((1, 0),), ()), "threading"), (((0,), ((1, 0),), ()), "tieup"), (((0,), (None,), ()), "tieup"),
    (((0,), ((0,),), ()), "treadling"), (((0,), ((0,),), ((1,),)), "treadling"), (((True,), (), ()), "threading"),
)


def all_functions():
    """Return for each function of the interface its name, itself, and the names of its parameters."""
    found = []
    for module, functions in FUNCTIONS.items():
        loaded = importlib.import_module("hangstogether." + module)
        for told in functions:
            name, parameters = told[:-1].split("(")
            found.append((name, getattr(loaded, name), parameters.split(", ")))
    return found


def is_first(name, parameters, word):
    if name in FREE or name in OTHERS:
        return False
    return parameters[0] == word or (word == "cloth" and parameters[0] == "first")


class FirstArgumentsTest(unittest.TestCase):
    def refuses_first(self, error, word, wrong):
        count = 0
        for name, function, parameters in all_functions():
            if is_first(name, parameters, word):
                count += 1
                for value, reason in wrong:
                    # All other arguments are wrong, too.
                    for other in (None, (), -1):
                        with self.subTest(name), self.assertRaises(error) as caught:
                            function(value, *[other for _ in parameters[1:]])
                        self.assertEqual((type(caught.exception), caught.exception.reason), (error, reason), name)
        return count

    def test_cloths(self):
        self.assertEqual(self.refuses_first(ClothError, "cloth", WRONG_CLOTHS), 77)

    def test_drafts(self):
        self.assertEqual(self.refuses_first(DraftError, "draft", WRONG_DRAFTS), 13)


class AnyValuesTest(unittest.TestCase):
    def test_all_functions(self):
        for name, function, parameters in all_functions():
            # Those that write raise nothing of their own, and may fail in any way.
            if name.startswith("write_"):
                continue
            for value in ODD_VALUES:
                try:
                    function(*[value for _ in parameters])
                except WeaveError as error:
                    self.assertIsNot(type(error), WeaveError)
