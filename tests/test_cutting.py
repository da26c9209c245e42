"""Points 29 to 33: cutting threads of a piece."""

import itertools

from hangstogether.cutting import (
    accept_chains,
    accept_strength,
    apart_without,
    most_chains,
    strength,
    weak_threads,
)
from hangstogether.errors import ArgumentError, ClothError, PaperError
from tests.helpers import WeaveTest, all_cloths, answer_or_error, is_above, some_cloths, threads_in, variants

PLAIN = ((1, 0), (0, 1))
THREE = ((1, 0, 0), (0, 1, 0), (0, 0, 1))
FOUR = tuple([tuple([(pick + end) % 2 for end in range(4)]) for pick in range(4)])
EIGHT = tuple([tuple([(pick + end) % 2 for end in range(8)]) for pick in range(8)])
ONE = (("end", 0), ("end", 1))


def raised_in(cloth, rest, thread):
    """Return what is lifted with a thread in the rest, in order."""
    found = {thread}
    while True:
        more = {upper for upper in rest if any([is_above(cloth, upper, lower) for lower in found])} - found
        if not more:
            return tuple([other for other in threads_in(cloth) if other in found])
        found |= more


def rest_of(cloth, gone):
    return [thread for thread in threads_in(cloth) if thread not in gone]


def first_apart(cloth, gone):
    rest = rest_of(cloth, gone)
    for thread in rest:
        if len(raised_in(cloth, rest, thread)) < len(rest):
            return raised_in(cloth, rest, thread)
    return None


def all_pairs(cloth):
    threads = threads_in(cloth)
    return [
        (start, end) for start in threads for end in threads if start != end and not is_above(cloth, end, start)
    ]


def is_kind_of(value, threads):
    names = [repr(thread) for thread in threads]
    return type(value) is tuple and all([repr(part) in names for part in value])


def are_right_chains(cloth, pair, count, chains):
    if type(chains) is not tuple or len(chains) != count:
        return False
    between = []
    for chain in chains:
        if not is_kind_of(chain, threads_in(cloth)) or len(chain) < 2 or (chain[0], chain[-1]) != pair:
            return False
        if not all([is_above(cloth, upper, lower) for lower, upper in zip(chain, chain[1:])]):
            return False
        between += chain[1:-1]
    return len(set(between)) == len(between) and not set(pair) & set(between)


def is_right_cut(cloth, pair, count, cut):
    if not is_kind_of(cut, threads_in(cloth)) or len(cut) != count or len(set(cut)) != count or set(cut) & set(pair):
        return False
    return pair[1] not in raised_in(cloth, rest_of(cloth, cut), pair[0])


class ApartTest(WeaveTest):
    def test_all_rows_of_small_cloths(self):
        for cloth in all_cloths(1, 1) + all_cloths(2, 2) + all_cloths(1, 3) + all_cloths(2, 3):
            threads = threads_in(cloth)
            for count in range(len(threads) + 1):
                for gone in itertools.permutations(threads, count):
                    self.assertEqual(apart_without(cloth, gone), first_apart(cloth, gone))

    def test_edges(self):
        self.assertIsNone(apart_without(PLAIN, ()))
        self.assertIsNone(apart_without(PLAIN, threads_in(PLAIN)))
        self.assertIsNone(apart_without(PLAIN, threads_in(PLAIN)[1:]))
        self.assertEqual(apart_without(PLAIN, (("pick", 0), ("pick", 1))), (("end", 0),))
        self.assertEqual(apart_without(PLAIN, (("end", 0),)), (("end", 1), ("pick", 0)))

    def test_wrong_threads(self):
        for gone in (None, 0, [("end", 0)], ("end", 0), (("end", 2),), (("end", 0),) * 2, (("end", True),), (None,)):
            self.refuses(ArgumentError, "threads", apart_without, PLAIN, gone)
        self.stands_any_values(apart_without, PLAIN, ())

    def test_weak_threads(self):
        for cloth in all_cloths(2, 2) + some_cloths(11, 60, 5):
            told = [(thread, first_apart(cloth, (thread,))) for thread in threads_in(cloth)]
            self.assertEqual(weak_threads(cloth), tuple([pair for pair in told if pair[1] is not None]))
        self.assertEqual([thread for thread, _ in weak_threads(THREE)], list(threads_in(THREE)))
        self.assertEqual(weak_threads(FOUR), ())
        self.stands_any_values(weak_threads, PLAIN)


class SizeTest(WeaveTest):
    def test_size(self):
        pair = ONE
        calls = (
            (apart_without, (None,)), (weak_threads, ()), (strength, ()), (most_chains, (None, None)),
            (accept_chains, (None, None, None)), (accept_strength, (None,)),
        )
        for function, further in calls:
            self.refuses(ClothError, "form", function, None, *further)
            self.refuses(ClothError, "crossing", function, ((True,) * 9,), *further)
            for cloth in (((1,) * 9,), ((1,),) * 9, ((0,) * 24,) * 24):
                self.refuses(ArgumentError, "size", function, cloth, *further)
        self.assertIsNone(apart_without(EIGHT, ()))
        self.assertEqual(weak_threads(EIGHT), ())
        number, chains, cut = most_chains(EIGHT, *pair)
        self.assertEqual((number, len(cut)), (4, 4))
        self.assertTrue(are_right_chains(EIGHT, pair, 4, chains))
        told = strength(EIGHT)
        self.assertEqual(told[0], 4)
        self.assertEqual(len(told[3]), 16 * 15 - 64)
        self.assertIsNone(accept_strength(EIGHT, told))


class ChainsTest(WeaveTest):
    def fewest(self, cloth, pair):
        """Return the least number of threads that part a pair, by trying all rows."""
        others = [thread for thread in threads_in(cloth) if thread not in pair]
        for count in range(len(others) + 1):
            for cut in itertools.combinations(others, count):
                if is_right_cut(cloth, pair, count, cut):
                    return count

    def test_most_chains(self):
        for cloth in all_cloths(2, 2) + [THREE, FOUR] + some_cloths(12, 25, 4):
            for pair in all_pairs(cloth):
                told = most_chains(cloth, *pair)
                number, chains, cut = told
                self.assertEqual(number, self.fewest(cloth, pair))
                self.assertTrue(are_right_chains(cloth, pair, number, chains))
                self.assertTrue(is_right_cut(cloth, pair, number, cut))
                self.assertEqual(cut, tuple([thread for thread in threads_in(cloth) if thread in cut]))
                self.assertIsNone(accept_chains(cloth, *pair, told))

    def test_large_pieces(self):
        for cloth in some_cloths(13, 12, 8):
            for pair in all_pairs(cloth):
                number, chains, cut = most_chains(cloth, *pair)
                self.assertTrue(are_right_chains(cloth, pair, number, chains))
                self.assertTrue(is_right_cut(cloth, pair, number, cut))

    def test_no_pair(self):
        threads = threads_in(PLAIN)
        right = all_pairs(PLAIN)
        for start, end in itertools.product(threads, threads):
            if (start, end) not in right:
                self.refuses(ArgumentError, "pair", most_chains, PLAIN, start, end)
                self.refuses(ArgumentError, "pair", accept_chains, PLAIN, start, end, None)
        for wrong in (None, 0, "end", ["end", 0], ("end", 2), ("end", True), ("end",), (), ("pick", -1), (None, 0)):
            self.refuses(ArgumentError, "pair", most_chains, PLAIN, ("end", 1), wrong)
            self.refuses(ArgumentError, "pair", most_chains, PLAIN, wrong, ("end", 1))
            self.refuses(ArgumentError, "pair", accept_chains, PLAIN, wrong, wrong, wrong)
        self.stands_any_values(most_chains, PLAIN, *ONE)


class AcceptChainsTest(WeaveTest):
    def expected(self, cloth, pair, told):
        if type(told) is not tuple or len(told) != 3 or type(told[0]) is not int or type(told[2]) is not tuple:
            return "form"
        if not are_right_chains(cloth, pair, told[0], told[1]):
            return "chains"
        return None if is_right_cut(cloth, pair, told[0], told[2]) else "cut"

    def check(self, cloth, pair, told):
        reason = self.expected(cloth, pair, told)
        if reason is None:
            self.assertIsNone(accept_chains(cloth, *pair, told))
        else:
            self.refuses(PaperError, reason, accept_chains, cloth, *pair, told)

    def test_one_thing_changed(self):
        for cloth, pair in ((PLAIN, ONE), (FOUR, ONE), (((0, 1), (0, 0)), ONE), (THREE, (("pick", 1), ("end", 0)))):
            self.assertIn(pair, all_pairs(cloth))
            for told in variants(most_chains(cloth, *pair)):
                self.check(cloth, pair, told)

    def test_order_of_errors(self):
        number, chains, cut = most_chains(FOUR, *ONE)
        self.assertEqual(number, 2)
        self.refuses(PaperError, "form", accept_chains, FOUR, *ONE, (number, None, list(cut)))
        self.refuses(PaperError, "form", accept_chains, FOUR, *ONE, (True, chains[:1], cut[:1]))
        self.refuses(PaperError, "chains", accept_chains, FOUR, *ONE, (number, None, ()))
        self.refuses(PaperError, "chains", accept_chains, FOUR, *ONE, (10 ** 30, chains, cut))
        self.refuses(PaperError, "chains", accept_chains, FOUR, *ONE, (-2, chains, cut))
        self.refuses(PaperError, "cut", accept_chains, FOUR, *ONE, (1, chains[:1], cut[:1]))
        self.refuses(PaperError, "cut", accept_chains, FOUR, *ONE, (0, (), ()))
        self.refuses(PaperError, "chains", accept_chains, FOUR, *ONE, (3, (*chains, chains[0]), (*cut, cut[0])))
        self.assertIsNone(accept_chains(FOUR, *ONE, (number, chains[::-1], cut[::-1])))

    def test_chains_that_share_or_come_back(self):
        pair = ONE
        way = (("end", 0), ("pick", 0), ("end", 3), ("pick", 1), ("end", 2), ("pick", 2), ("end", 1))
        number, chains, cut = most_chains(FOUR, *pair)
        self.check(FOUR, pair, (2, (chains[0], way), cut))
        self.check(FOUR, pair, (2, (chains[0], chains[0]), cut))
        twice = (("end", 0), ("pick", 0), ("end", 3), ("pick", 1), ("end", 0), ("pick", 2), ("end", 1))
        self.check(FOUR, pair, (2, (chains[0], twice), cut))
        again = (("end", 0), ("pick", 0), ("end", 1), ("pick", 1), ("end", 0), ("pick", 2), ("end", 1))
        self.check(FOUR, pair, (1, (again,), cut))
        for some in (twice, again, (*way[:3], *chains[0]), (*way, "pick", way[-1]), (*chains[0][:2], *way)):
            self.check(FOUR, pair, (1, (some,), cut[:1]))
        # One chain that comes back to its start, and one that goes on behind its end.
        back = (("end", 0), ("pick", 0), ("end", 3), ("pick", 1), ("end", 0), ("pick", 2), ("end", 1))
        on = (("end", 0), ("pick", 0), ("end", 1), ("pick", 1), ("end", 2), ("pick", 2), ("end", 1))
        for some in (back, on):
            self.assertEqual(len(set(some[1:-1])), len(some[1:-1]))
            self.assertTrue(all([is_above(FOUR, upper, lower) for lower, upper in zip(some, some[1:])]))
            self.refuses(PaperError, "chains", accept_chains, FOUR, *pair, (1, (some,), cut[:1]))
        self.check(FOUR, pair, (1, ((pair[0],),), cut))
        self.check(FOUR, pair, (1, (pair,), cut))

    def test_cut_of_more_threads_than_chains(self):
        number, chains, cut = most_chains(FOUR, *ONE)
        for thread in (("pick", 1), ("end", 2), ("end", 3)):
            self.refuses(PaperError, "cut", accept_chains, FOUR, *ONE, (number, chains, (*cut, thread)))

    def test_cut_with_start_or_end(self):
        chains = most_chains(PLAIN, *ONE)[1]
        for cut in itertools.product(threads_in(PLAIN), repeat=len(chains)):
            self.check(PLAIN, ONE, (len(chains), chains, cut))

    def test_any_values(self):
        told = most_chains(PLAIN, *ONE)
        self.stands_any_values(accept_chains, PLAIN, *ONE, told)
        self.stands_any_values(lambda *parts: accept_chains(PLAIN, *ONE, parts), *told)


class StrengthTest(WeaveTest):
    def fewest(self, cloth):
        threads = threads_in(cloth)
        for count in range(len(threads) + 1):
            for cut in itertools.combinations(threads, count):
                if first_apart(cloth, cut) is not None:
                    return count

    def test_examples(self):
        self.assertEqual((strength(PLAIN)[0], strength(THREE)[0]), (1, 1))
        self.assertEqual(strength(((1,),)), (0, (), (("end", 0),), ((),)))

    def test_by_trying_all_rows(self):
        for cloth in all_cloths(1, 2) + all_cloths(2, 2) + all_cloths(2, 3) + [FOUR] + some_cloths(14, 60, 5):
            told = strength(cloth)
            self.assertEqual(told[0], self.fewest(cloth))
            self.assertIsNone(AcceptStrengthTest.reason(cloth, told))
            self.assertIsNone(accept_strength(cloth, told))

    def test_weak_threads_and_strength(self):
        for cloth in some_cloths(15, 40, 5):
            weak = weak_threads(cloth)
            number = strength(cloth)[0]
            self.assertEqual(number == 0, apart_without(cloth, ()) is not None)
            if number > 0:
                self.assertEqual(number == 1, weak != ())


class AcceptStrengthTest(WeaveTest):
    @staticmethod
    def reason(cloth, told):
        pairs = all_pairs(cloth)
        if type(told) is not tuple or len(told) != 4 or type(told[0]) is not int or not 0 <= told[0] <= 8:
            return "form"
        number, cut, lifted, paper = told
        if type(cut) is not tuple or type(lifted) is not tuple or type(paper) is not tuple or len(paper) != len(pairs):
            return "form"
        if not is_kind_of(cut, threads_in(cloth)) or len(cut) != number or len(set(cut)) != number:
            return "cut"
        rest = rest_of(cloth, cut)
        if not is_kind_of(lifted, rest) or len(set(lifted)) != len(lifted) or not 0 < len(lifted) < len(rest):
            return "lifted"
        if any([set(raised_in(cloth, rest, thread)) - set(lifted) for thread in lifted]):
            return "lifted"
        right = [are_right_chains(cloth, pair, number, chains) for pair, chains in zip(pairs, paper)]
        return None if all(right) else "chains"

    def check(self, cloth, told):
        reason = self.reason(cloth, told)
        if reason is None:
            self.assertIsNone(accept_strength(cloth, told))
        else:
            self.refuses(PaperError, reason, accept_strength, cloth, told)

    def test_one_thing_changed(self):
        for cloth in (PLAIN, ((1,),), ((1, 0),), ((1, 1), (0, 0)), ((1, 0, 1), (0, 1, 0))):
            for told in variants(strength(cloth)):
                self.check(cloth, told)

    def test_order_of_errors(self):
        number, cut, lifted, paper = strength(FOUR)
        self.assertEqual(number, 2)
        self.refuses(PaperError, "form", accept_strength, FOUR, (9, cut, lifted, paper))
        self.refuses(PaperError, "form", accept_strength, FOUR, (2, (), (), paper[1:]))
        self.refuses(PaperError, "form", accept_strength, FOUR, (2, (), (), list(paper)))
        self.refuses(PaperError, "form", accept_strength, FOUR, (2, None, lifted, paper))
        self.refuses(PaperError, "form", accept_strength, FOUR, (2, cut, None, paper))
        self.refuses(PaperError, "form", accept_strength, FOUR, (-1, cut, lifted, paper))
        self.refuses(PaperError, "cut", accept_strength, FOUR, (3, cut, (), paper))
        self.refuses(PaperError, "cut", accept_strength, FOUR, (2, cut[:1] * 2, (), paper))
        self.refuses(PaperError, "lifted", accept_strength, FOUR, (2, cut, cut, (None,) * len(paper)))
        self.refuses(PaperError, "lifted", accept_strength, FOUR, (2, cut, (), paper))
        self.refuses(PaperError, "lifted", accept_strength, FOUR, (2, cut, tuple(rest_of(FOUR, cut)), paper))
        self.refuses(PaperError, "lifted", accept_strength, FOUR, (2, cut, lifted * 2, paper))
        self.refuses(PaperError, "chains", accept_strength, FOUR, (2, cut, lifted, (None,) * len(paper)))
        self.refuses(PaperError, "chains", accept_strength, FOUR, (2, cut, lifted, (*paper[:-1], paper[0])))
        self.refuses(PaperError, "chains", accept_strength, FOUR, (2, cut, lifted, (*paper[:-1], paper[-1][:1])))
        self.assertIsNone(accept_strength(FOUR, (2, cut[::-1], lifted[::-1], tuple([row[::-1] for row in paper]))))

    def test_more_cut_than_needed(self):
        number, cut, lifted, paper = strength(PLAIN)
        gone = tuple([thread for thread in threads_in(PLAIN) if thread[0] == "pick"])
        self.check(PLAIN, (2, gone, (("end", 0),), paper))
        self.refuses(PaperError, "chains", accept_strength, PLAIN, (2, gone, (("end", 0),), paper))

    def test_lifted_threads_that_are_cut(self):
        cloth = ((1, 1), (0, 0))
        paper = strength(cloth)[3]
        for lifted in ((("pick", 1),), (("pick", 1), ("end", 0))):
            self.refuses(PaperError, "lifted", accept_strength, cloth, (1, (("pick", 1),), lifted, paper))
        self.refuses(PaperError, "chains", accept_strength, cloth, (1, (("pick", 1),), (("end", 0),), paper))

    def test_any_values(self):
        told = strength(PLAIN)
        self.stands_any_values(accept_strength, PLAIN, told)
        self.stands_any_values(lambda *parts: accept_strength(PLAIN, parts), *told)
        self.stands_any_values(strength, PLAIN)
        self.assertEqual(answer_or_error(accept_strength, PLAIN, None), (PaperError, "form"))
