"""The examples of the interface."""

import doctest
import unittest

EXAMPLES = r"""
>>> from hangstogether.words import read_cloth, write_cloth
>>> read_cloth("(cloth #- -#)"), write_cloth(((1, 0, 0),))
(((1, 0), (0, 1)), '(cloth #--)\n')

>>> from hangstogether.drafts import drawn, woven
>>> drawn(((1, 1, 0), (0, 0, 1), (1, 1, 0)))
((0, 0, 1), ((0,), (1,)), ((0,), (1,), (0,)))

>>> woven(((0, 1), ((0,), (1,)), ((), (0, 1), (1,))))
((0, 0), (1, 1), (0, 1))

>>> from hangstogether.layers import hangs_together, layers
>>> hangs_together(((1, 0), (0, 1)))[0], hangs_together(((1, 1), (1, 0)))
('together', ('apart', (('end', 0),)))

>>> layers(((1, 1), (0, 0)))
((('pick', 1),), (('end', 0),), (('end', 1),), (('pick', 0),))

>>> from hangstogether.cutting import strength
>>> strength(((1, 0), (0, 1)))[0], strength(((1, 0, 0), (0, 1, 0), (0, 0, 1)))[0]
(1, 1)

>>> from hangstogether.floats import longest, too_long
>>> longest(((1, 1, 0), (0, 1, 1), (1, 0, 1)))
(2, (('end', 0), 2, 2, 'face'))

>>> from hangstogether.colours import picture, plan_of
>>> picture(((1, 0), (0, 1)), (("red", "blue"), ("red", "green")))
(('red', 'red'), ('green', 'blue'))

>>> plan_of(((1, 1), (1, 0)), (("red", "blue"), ("blue", "red")))
('clash', (0, 0), (1, 0))

>>> from hangstogether.pictures import weave_picture
>>> weave_picture((("a", "b"), ("c", "d")), ((None, None), (None, None)))[0]
'cloth'

>>> from hangstogether.turns import compare, normal
>>> normal(((1, 0), (0, 1), (1, 0), (0, 1)))
(((0, 1), (1, 0)), ((0, 0, 0, 0), 0, 1))

>>> compare(((1, 0), (0, 1)), ((1, 1), (0, 0)))
('unlike', ((0, 1), (1, 0)), ((0, 1),))

>>> from hangstogether.doubling import stacked, unstacked
>>> stacked((((1,),), ((0,),)))
((1, 0), (1, 0))

>>> unstacked(((1, 1), (1, 0)), 2)
((((1,),), ((0,),)), ((0, 1),))

>>> from hangstogether.families import family, satin, satins, twill
>>> twill((2, 1), 1), satins(8)
(((1, 1, 0), (0, 1, 1), (1, 0, 1)), ((3, 5),))

>>> family(satin(5, 2)), family(twill((2, 2), 1))
(('satin', 1, 2), ('twill', (2, 2), 1))

>>> from hangstogether.counting import pieces, up_to_moves
>>> pieces(2, 2, 1), up_to_moves(2, 2)
(2, 7)

>>> from hangstogether.faults import faults
>>> draft = ((0, 1, 0), ((0,), (1,)), ((0,), (1,), (0,)))
>>> faults(draft, ((1, 0, 0), (0, 1, 1), (1, 0, 0)), 1)
('found', (('end', 2, 1),), ())

>>> from hangstogether.yarn import bends, lengths, wound
>>> bends(((1, 0), (0, 1))), lengths(((1, 0), (0, 1)), (3, 5, (1, 2)))
((2, 2, 2, 2), ((7, 1), (7, 1), (11, 1), (11, 1)))

>>> wound(((3, 1), (3, 1), (5, 1)), (5, 6))
(1, 1, 0)

>>> from hangstogether.pegs import shortest
>>> shortest(((0,), (1,), (0,), (1,), (0,), (1,)))
(3, ((3, ((0,), (1,))),))

>>> from hangstogether.sums import switches_between, with_sums
>>> with_sums((1, 1), (1, 1)), with_sums((2, 0, 0), (2, 0))
(('cloth', ((1, 0), (0, 1))), ('barred', 1))

>>> switches_between(((1, 0), (0, 1)), ((0, 1), (1, 0)))
((0, 1, 0, 1),)

>>> from hangstogether.tiles import lattice, least_repeat
>>> lattice(((1, 0, 0), (0, 1, 0), (0, 0, 1))), least_repeat(((1, 0, 1, 0), (0, 1, 0, 1)))
((3, 1, 1), ((1, 0), (0, 1)))

>>> from hangstogether.weaving import Loom
>>> loom = Loom(((0, 1), ((0,), (1,)), ((0,), (1,))))
>>> loom.weave(1), loom.snap(0), loom.weave(2), loom.faults()
(((1, 0),), None, ((None, 1), (None, 0)), ((1, 0), (2, 0)))

>>> from hangstogether.nearest import nearest
>>> nearest(((1, 1, 0), (1, 0, 0)), 2)[0], nearest(((1, 1, 0), (1, 0, 0)), 1)[0]
(1, 2)

>>> from hangstogether.rethreading import rethread
>>> rethread((0, 1, 2, 0), (1, 0, 2, 2), 3)[:2]
(1, (1, 0, 2))

>>> from hangstogether.tablets import band, turns_for
>>> cards = ((("r", "g", "b", "w"), "Z", 0, 0), (("r", "g", "b", "w"), "S", 1, 1))
>>> band(cards, (("F", "I"), ("F", "B")))
((('g', '/'), ('g', '-')), (('b', '/'), ('r', '/')))

>>> turns_for(cards, (("w", "b"),)), turns_for(cards, (("b", None),))
((('B', 'F'),), None)

>>> from hangstogether.stitching import fewest_stitches, least_needed
>>> fewest_stitches(((1, 1), (0, 0)), 2), least_needed(((1, 1), (0, 0)))
(((0, 0), (1, 0)), 1)

>>> from hangstogether.holders import fewest_loads
>>> fewest_loads(("r", "g", "r", "b", "r", "g"), 2)[0], fewest_loads(("r", "g", "r", "b", "r", "g"), 1)[0]
(4, 6)

>>> from hangstogether.shuttles import throws_for
>>> throws_for(2, ((0, 0), (0, 1)), (0, 0, 1, 1)), throws_for(1, ((0, 0), (1, 0)), (0,))
((1, (0, 0, 0, 1)), None)

>>> from hangstogether.edges import best_starts, loose_turns
>>> best_starts(((1, 0, 1), (0, 1, 0), (0, 1, 1)), (0, 0, 0)), loose_turns(((1, 0, 1), (0, 1, 0), (0, 1, 1)), (0, 0, 0), (0,))
((0, (1,)), ((0, 1, 2, 0),))

>>> from hangstogether.papers import read_answer, write_answer
>>> write_answer(("apart", (("end", 0), ("pick", 2)))), read_answer("(together)")
('(apart (end 0) (pick 2))\n', ('together', ()))

>>> from hangstogether.shades import shades_of, units
>>> units(2, 1), shades_of(((0, 64, 255),), 4)
((((0, 0), (0, 0)), ((1, 0), (0, 1)), ((1, 1), (1, 1))), ((0, 1, 4),))

>>> from hangstogether.draws import fewest_runs
>>> fewest_runs((0, 1, 2, 3, 2, 1, 0, 0), 4)
((0, 'up', 4), (2, 'down', 3), (0, 'up', 1))
"""


class ExamplesTest(unittest.TestCase):
    def test_examples(self):
        names = {}
        examples = doctest.DocTestParser().get_examples(EXAMPLES)
        self.assertGreater(len(examples), 60)
        for example in examples:
            if example.want == "":
                exec(example.source, names)
            else:
                self.assertEqual(repr(eval(example.source, names)) + "\n", example.want, example.source)
