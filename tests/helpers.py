"""What several tests use."""

import itertools
import random
import unittest

from hangstogether.errors import PaperError, WeaveError


def deep(depth=99):
    """Return a tuple nested this deep."""
    value = ()
    for _ in range(depth):
        value = (value,)
    return value


ODD_VALUES = (
    None, True, False, 0, 1, -1, 10 ** 30, "", "end", "x" * 20000, (), ((),), ((), ()), ((), (), ()),
    (1,), ((1,),), ((True,),), (True, (), ()), (1, (), ()), (1, ((),), ()), ("end", 0), (("end", 0),),
    (("end", True),), (("end", 0), ("end", 0)), (("pick", -1),), (("end", "0"),), ((0, 0), (0, 0)),
    (((0, 0), (0, 0)),), (("a",), ("a",)), ("plan", ()), ("clash", (0, 0), (0, 0)), ("apart", ()),
    ("together", (("end", 0),)), ("cloth", (), ()), ("chains", (), ()), ("chains", ((), ()), ((), ())),
    (("end", 0, "a", 1), ("end", 0, "a", 0)), ("chains", (("end", 0, "a", 1),) * 2, ((None,) * 4,) * 2),
    deep(), (0,) * 20000, ((),) * 20000, ((0,),) * 10000, (("end", 0),) * 6000, tuple(range(20000)),
    ("same", ((0, 0, 0, 0), 0, 0)), ("unlike", ((0,),), ((1,),)), ("profile", ((0,),)), ("block", 0, 0),
    ("twill", 0), ("rows", 0), ("found", (), None), ("found", (("end", 0, 0),), ()), ("none", ()), (0, 1), (1, 1),
    ((1, 0), (0, 1)), (((1,),), ((0,),)), (((1, 0), (0, 1)),), (((((0, 1),), 1),),), ((0,),), ((0, 10 ** 30),),
    [], [[1]], ([1],), [(1,)], ["end", 0], (["end", 0],), ("plan", [[], []]), [1, (), ()],
)


class WeaveTest(unittest.TestCase):
    """A test that asks for an error with its reason."""

    def refuses(self, error, reason, function, *arguments):
        with self.assertRaises(error) as caught:
            function(*arguments)
        self.assertIs(type(caught.exception), error)
        self.assertEqual(caught.exception.reason, reason)

    def judges(self, reason, function, *arguments):
        """Ask that a function accepts what it judges, or refuses it as a paper for a reason that is not None."""
        if reason is None:
            self.assertIsNone(function(*arguments))
        else:
            self.refuses(PaperError, reason, function, *arguments)

    def stands_any_values(self, function, *arguments):
        """Pass odd values in the place of each argument: nothing but an error of the program may be raised."""
        for place in range(len(arguments)):
            for value in ODD_VALUES:
                changed = [*arguments[:place], value, *arguments[place + 1:]]
                answer_or_error(function, *changed)


def answer_or_error(function, *arguments):
    """Return the answer, or the pair of the class and the reason of an error of the program."""
    try:
        return function(*arguments)
    except WeaveError as error:
        return type(error), error.reason


def variants(value):
    """Return many values that differ from a value in one place."""
    found = [None, [], "?", (), True]
    if isinstance(value, bool):
        found += [not value, int(value)]
    elif isinstance(value, int):
        found += [value + 1, value - 1, str(value), bool(value), 10 ** 30]
    elif isinstance(value, str):
        found += [value + "x", value[1:], "x" * 13]
    elif isinstance(value, tuple):
        found += [list(value), (*value, None), value[1:], value[:-1], value[::-1], value + value[:1], value * 2]
        for place, part in enumerate(value):
            for other in variants(part):
                found.append((*value[:place], other, *value[place + 1:]))
    return [other for other in found if not same(other, value)]


def same(one, other):
    """Tell whether two values are equal in their kinds, too."""
    return repr(one) == repr(other)


def all_cloths(picks, ends):
    """Return all cloths of a size."""
    rows = list(itertools.product((0, 1), repeat=ends))
    return list(itertools.product(rows, repeat=picks))


def some_cloths(seed, count, most):
    """Return cloths of any size up to `most` picks and ends, the same ones each time."""
    chance = random.Random(seed)
    found = []
    for _ in range(count):
        picks, ends, share = chance.randint(1, most), chance.randint(1, most), chance.choice((2, 5, 8))
        row = lambda: tuple([1 if chance.randrange(10) < share else 0 for _ in range(ends)])
        found.append(tuple([row() for _ in range(picks)]))
    return found


def threads_in(cloth):
    """Return all threads of a cloth, in order."""
    ends = [("end", number) for number in range(len(cloth[0]))]
    return tuple(ends + [("pick", number) for number in range(len(cloth))])


def is_above(cloth, upper, lower):
    """Tell whether a thread lies above another one."""
    if upper[0] == lower[0]:
        return False
    if upper[0] == "end":
        return cloth[lower[1]][upper[1]] == 1
    return cloth[upper[1]][lower[1]] == 0
