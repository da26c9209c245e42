"""Points 23 to 28: layers, and whether a cloth hangs together."""

import itertools

from hangstogether.errors import ArgumentError, ClothError, PaperError
from hangstogether.layers import (
    accept_together,
    can_be_lifted,
    falls_by_sums,
    hangs_together,
    layers,
    lifted_with,
    parted,
)
from tests.helpers import (
    ODD_VALUES,
    WeaveTest,
    all_cloths,
    answer_or_error,
    is_above,
    some_cloths,
    threads_in,
    variants,
)

PLAIN = ((1, 0), (0, 1))
# A plain weave below a pick and an end that lie above all, so three layers.
UNDER = ((0, 0, 0), (1, 1, 0), (1, 0, 1))
SMALL = all_cloths(1, 1) + all_cloths(1, 3) + all_cloths(3, 1) + all_cloths(2, 2) + all_cloths(2, 3) + all_cloths(3, 2)


def rows_of(threads):
    return [some for count in range(len(threads) + 1) for some in itertools.combinations(threads, count)]


def is_closed(cloth, some):
    return all(upper in some or not any(is_above(cloth, upper, lower) for lower in some) for upper in threads_in(cloth))


def sets_that_lift(cloth):
    """Return all sets that can be lifted off the others, by trying all sets."""
    threads = threads_in(cloth)
    return [some for some in rows_of(threads) if 0 < len(some) < len(threads) and is_closed(cloth, some)]


def least_closed(cloth, some):
    return min([row for row in rows_of(threads_in(cloth)) if set(row) >= set(some) and is_closed(cloth, row)], key=len)


class LiftedTest(WeaveTest):
    def test_all_sets_of_small_cloths(self):
        for cloth in SMALL:
            lifting = sets_that_lift(cloth)
            closed = [row for row in rows_of(threads_in(cloth)) if is_closed(cloth, row)]
            for some in rows_of(threads_in(cloth)):
                self.assertEqual(can_be_lifted(cloth, some[::-1]), some in lifting)
                least = min([row for row in closed if set(row) >= set(some)], key=len)
                self.assertEqual(lifted_with(cloth, some[::-1]), least)

    def test_order_of_threads(self):
        self.assertEqual(lifted_with(UNDER, (("pick", 2), ("end", 1))), threads_in(UNDER))
        self.assertEqual(lifted_with(UNDER, (("pick", 0),)), (("pick", 0),))
        self.assertEqual(lifted_with(((1, 0), (0, 0)), (("end", 0), ("pick", 0))), (
            ("end", 0), ("pick", 0), ("pick", 1)))
        self.assertEqual(lifted_with(PLAIN, ()), ())
        self.assertIs(can_be_lifted(PLAIN, ()), False)
        self.assertIs(can_be_lifted(PLAIN, threads_in(PLAIN)), False)
        self.assertIs(can_be_lifted(((1,),), (("end", 0),)), True)

    def test_wrong_threads(self):
        wrong = (
            None, 0, "end", ["end", 0], [("end", 0)], ("end", 0), (("end", 2),), (("pick", 2),), (("end", -1),),
            (("end", True),), (("end", 0), ("end", 0)), (("warp", 0),), (("end", 0, 0),), (("end",),), ((0, "end"),),
            (["end", 0],), (None,), (("end", None),), ((None, 0),), (("end", "0"),), ((("end",), 0),),
        )
        for threads in wrong:
            for function in (lifted_with, can_be_lifted):
                self.refuses(ArgumentError, "threads", function, PLAIN, threads)
                self.refuses(ClothError, "form", function, 0, threads)
        for function in (lifted_with, can_be_lifted):
            self.stands_any_values(function, PLAIN, (("end", 0),))


class LayersTest(WeaveTest):
    def test_examples(self):
        self.assertEqual(layers(((1, 1), (0, 0))), ((("pick", 1),), (("end", 0),), (("end", 1),), (("pick", 0),)))
        self.assertEqual(layers(UNDER)[0], (("pick", 0),))

    def test_small_cloths(self):
        for cloth in SMALL + some_cloths(7, 60, 4):
            threads = threads_in(cloth)
            raised = {thread: least_closed(cloth, (thread,)) for thread in threads}
            told = layers(cloth)
            self.assertEqual(sorted([thread for layer in told for thread in layer]), sorted(threads))
            for layer in told:
                self.assertEqual(layer, tuple([thread for thread in threads if thread in layer]))
            for one, other in itertools.product(threads, threads):
                together = one in raised[other] and other in raised[one]
                self.assertEqual(any([one in layer and other in layer for layer in told]), together)
            order = [(len(raised[layer[0]]), threads.index(layer[0])) for layer in told]
            self.assertEqual(order, sorted(order))
            for place, layer in enumerate(told):
                below = [thread for later in told[place + 1:] for thread in later]
                self.assertFalse(set(below) & set(raised[layer[0]]))

    def test_equally_many_lifted(self):
        # Two picks above all: the first one comes first.
        self.assertEqual(layers(((0, 0), (0, 0)))[:2], ((("pick", 0),), (("pick", 1),)))
        self.assertEqual(layers(((1, 1), (1, 1)))[:2], ((("end", 0),), (("end", 1),)))

    def test_two_woven_layers(self):
        # Two plain weaves one above the other, with their threads by turns.
        cloth = ((1, 0, 0, 0), (1, 1, 1, 0), (0, 0, 1, 0), (1, 0, 1, 1))
        first = (("end", 0), ("end", 2), ("pick", 0), ("pick", 2))
        second = (("end", 1), ("end", 3), ("pick", 1), ("pick", 3))
        self.assertEqual(layers(cloth), (first, second))
        self.assertEqual(parted(cloth), ((first, PLAIN), (second, ((1, 0), (0, 1)))))

    def test_parted(self):
        self.assertEqual(parted(PLAIN), ((threads_in(PLAIN), PLAIN),))
        self.assertEqual(parted(((1,),)), (((("end", 0),), None), ((("pick", 0),), None)))
        for cloth in some_cloths(8, 80, 5):
            self.assertEqual(tuple([layer for layer, _ in parted(cloth)]), layers(cloth))
            for layer, part in parted(cloth):
                ends = [number for kind, number in layer if kind == "end"]
                picks = [number for kind, number in layer if kind == "pick"]
                told = tuple([tuple([cloth[pick][end] for end in ends]) for pick in picks])
                self.assertEqual(part, told if ends and picks else None)

    def test_no_cloth(self):
        for function in (layers, parted, hangs_together, falls_by_sums):
            self.refuses(ClothError, "ends", function, ((),))
            self.stands_any_values(function, PLAIN)


def is_round(cloth, chain):
    return (
        set(chain) == set(threads_in(cloth)) and chain[0] == chain[-1]
        and all([is_above(cloth, upper, lower) for lower, upper in zip(chain, chain[1:])])
    )


class HangsTogetherTest(WeaveTest):
    def test_exactly_if_nothing_can_be_lifted(self):
        for cloth in SMALL + all_cloths(3, 3):
            lifting = sets_that_lift(cloth)
            word, threads = hangs_together(cloth)
            self.assertEqual(word, "apart" if lifting else "together")
            self.assertEqual(len(layers(cloth)) == 1, not lifting)
            if lifting:
                self.assertIn(threads, lifting)
            else:
                self.assertTrue(is_round(cloth, threads))
            self.assertIsNone(accept_together(cloth, (word, threads)))

    def test_first_thread(self):
        self.assertEqual(hangs_together(((1, 1), (1, 0))), ("apart", (("end", 0),)))
        for cloth in some_cloths(9, 80, 4):
            word, threads = hangs_together(cloth)
            raised = [least_closed(cloth, (thread,)) for thread in threads_in(cloth)]
            fewer = [row for row in raised if len(row) < len(threads_in(cloth))]
            self.assertEqual(word, "apart" if fewer else "together")
            if fewer:
                self.assertEqual(threads, fewer[0])

    def test_large_cloths(self):
        plain = tuple([tuple([(pick + end) % 2 for end in range(24)]) for pick in range(24)])
        satin = tuple([tuple([int((pick * 5 - end) % 24 == 0) for end in range(24)]) for pick in range(24)])
        for cloth in (plain, satin):
            word, chain = hangs_together(cloth)
            self.assertEqual(word, "together")
            self.assertTrue(is_round(cloth, chain))
            self.assertIsNone(accept_together(cloth, (word, chain)))


class AcceptTogetherTest(WeaveTest):
    def expected(self, cloth, told):
        """Return the reason for which an answer is refused, or None."""
        if type(told) is not tuple or len(told) != 2 or told[0] not in ("together", "apart"):
            return "form"
        word, threads = told
        if type(threads) is not tuple or not threads:
            return "form"
        names = [repr(thread) for thread in threads_in(cloth)]
        if not all([repr(thread) in names for thread in threads]):
            return "threads"
        if word == "apart":
            return None if tuple(sorted(threads)) in sets_that_lift(cloth) else "lifted"
        return None if is_round(cloth, threads) else "chain"

    def check(self, cloth, told):
        reason = self.expected(cloth, told)
        if reason is None:
            self.assertIsNone(accept_together(cloth, told))
        else:
            self.refuses(PaperError, reason, accept_together, cloth, told)

    def test_one_thing_changed(self):
        for cloth in (PLAIN, UNDER, ((1,),), ((0, 1),), ((1, 1), (0, 0))):
            for told in variants(hangs_together(cloth)):
                self.check(cloth, told)

    def test_all_rows_of_threads(self):
        for cloth in (PLAIN, ((1, 1), (1, 0)), ((0, 1),)):
            for word in ("together", "apart"):
                for length in range(6):
                    for threads in itertools.product(threads_in(cloth), repeat=length):
                        if length < 4 or threads[0] == threads[-1]:
                            self.check(cloth, (word, threads))

    def test_longer_chain(self):
        chain = hangs_together(PLAIN)[1]
        self.assertIsNone(accept_together(PLAIN, ("together", chain + chain[1:] * 50)))
        self.assertIsNone(accept_together(PLAIN, ("together", chain[2:] + chain[1:3])))
        self.assertIsNone(accept_together(PLAIN, ("together", chain[:1] + chain[1:] * 1500)))
        self.refuses(PaperError, "chain", accept_together, PLAIN, ("together", chain[:-1]))
        self.refuses(PaperError, "chain", accept_together, PLAIN, ("together", chain[::-1]))

    def test_any_order_of_lifted_threads(self):
        cloth = ((0, 1), (0, 0))
        self.assertIsNone(accept_together(cloth, ("apart", (("pick", 1), ("pick", 0), ("end", 1)))))
        self.assertIsNone(accept_together(cloth, ("apart", (("pick", 1),))))
        self.refuses(PaperError, "lifted", accept_together, cloth, ("apart", (("pick", 1), ("pick", 1))))

    def test_order_of_errors(self):
        self.refuses(ClothError, "form", accept_together, None, None)
        self.refuses(PaperError, "form", accept_together, PLAIN, ("round", (("end", 9),)))
        self.refuses(PaperError, "form", accept_together, PLAIN, ("apart", [("end", 9)]))
        self.refuses(PaperError, "form", accept_together, PLAIN, ("together", ()))
        self.refuses(PaperError, "threads", accept_together, PLAIN, ("apart", (("end", 0), ("end", 0), ("end", 2))))
        self.refuses(PaperError, "threads", accept_together, PLAIN, ("together", (("end", True),)))
        self.refuses(PaperError, "lifted", accept_together, PLAIN, ("apart", (("end", 0),)))

    def test_any_values(self):
        self.stands_any_values(accept_together, PLAIN, hangs_together(PLAIN))
        for value in ODD_VALUES:
            for word in ("together", "apart"):
                self.assertIn(answer_or_error(accept_together, PLAIN, (word, value))[1],
                              ("form", "threads", "chain", "lifted"))


class SumsTest(WeaveTest):
    def expected(self, cloth):
        threads = threads_in(cloth)
        over = {upper: sum([is_above(cloth, upper, lower) for lower in threads]) for upper in threads}
        order = sorted(threads, key=lambda thread: -over[thread])
        ends = [thread for thread in order if thread[0] == "end"]
        picks = [thread for thread in order if thread[0] == "pick"]
        for many in range(len(ends) + 1):
            for count in range(len(picks) + 1):
                some = ends[:many] + picks[:count]
                if 0 < len(some) < len(threads) and is_closed(cloth, some):
                    return many, count
        return None

    def test_falls_by_sums(self):
        for cloth in SMALL + all_cloths(3, 3) + some_cloths(10, 150, 7):
            told = falls_by_sums(cloth)
            self.assertEqual(told, self.expected(cloth))
            self.assertEqual(told is None, hangs_together(cloth)[0] == "together")

    def test_examples(self):
        self.assertIsNone(falls_by_sums(PLAIN))
        self.assertEqual(falls_by_sums(((1,),)), (1, 0))
        self.assertEqual(falls_by_sums(((0,),)), (0, 1))
        self.assertEqual(falls_by_sums(((1, 1), (0, 0))), (0, 1))
        self.assertEqual(falls_by_sums(((1, 0, 0, 0), (1, 1, 1, 0), (0, 0, 1, 0), (1, 0, 1, 1))), (2, 2))
