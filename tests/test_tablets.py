"""Points 114 to 117: tablets."""

import itertools
import random

from hangstogether.errors import ArgumentError
from hangstogether.tablets import accept_turn_table, band, turn_table, turns_for, twist, untwisting
from tests.helpers import ODD_VALUES, WeaveTest, variants

HOLES = ("r", "g", "b", "w")
CARDS = ((HOLES, "Z", 0, 0), (HOLES, "S", 1, 1))
TURNS = tuple(itertools.product("FBI", repeat=2))
STEP = {"F": 1, "B": 3, "I": 0}


def slow_places(turns):
    """Return the places of both packs behind some turns."""
    return tuple([sum([STEP[turn[pack]] for turn in turns]) % 4 for pack in (0, 1)])


def slow_colours(cards, places):
    return tuple([(colours * 3)[start + places[pack]] for colours, _, start, pack in cards])


def slow_band(cards, turns):
    slants = {"FZ": "/", "BS": "/", "FS": "\\", "BZ": "\\", "IZ": "-", "IS": "-"}
    rows = []
    for number, turn in enumerate(turns):
        colours = slow_colours(cards, slow_places(turns[:number + 1]))
        rows.append(tuple([(colour, slants[turn[card[3]] + card[1]]) for colour, card in zip(colours, cards)]))
    return tuple(rows)


def slow_twist(cards, turns):
    told = []
    for _, side, _, pack in cards:
        letters = [turn[pack] for turn in turns]
        told.append((letters.count("F") - letters.count("B")) * {"Z": 1, "S": -1}[side])
    return tuple(told)


def fits(cards, places, row):
    return all([wanted in (None, colour) for wanted, colour in zip(row, slow_colours(cards, places))])


def shows(cards, turns, picture):
    return all([fits(cards, slow_places(turns[:number + 1]), row) for number, row in enumerate(picture)])


def slow_table(cards, picture):
    """Return the parts of the table by trying all rows of turns."""
    table = [((0, 0),)]
    lines = [()]
    for row in picture:
        lines = [(*turns, turn) for turns in lines for turn in TURNS]
        lines = [turns for turns in lines if fits(cards, slow_places(turns), row)]
        # One row of turns for each pair of places is enough to go on from.
        lines = list({slow_places(turns): turns for turns in lines}.values())
        table.append(tuple(sorted([slow_places(turns) for turns in lines])))
    return tuple(table)


def some_cards(chance, packs):
    colours = lambda: tuple([chance.choice(("r", "g", "b")) for _ in range(4)])
    return tuple([
        (colours(), chance.choice("SZ"), chance.randrange(4), chance.choice(packs)) for _ in range(chance.randint(1, 5))
    ])


def some_turns(chance, most):
    return tuple([tuple(chance.choices("FBI", k=2)) for _ in range(chance.randint(0, most))])


ALL_PACKS = ((0,), (1,), (0, 1), (0, 1))


class BandTest(WeaveTest):
    def test_examples(self):
        told = band(CARDS, (("F", "I"), ("F", "B")))
        self.assertEqual(told, ((("g", "/"), ("g", "-")), (("b", "/"), ("r", "/"))))
        self.assertEqual(band(CARDS, ()), ())

    def test_sides_and_starts(self):
        for side, start, pack in itertools.product("SZ", range(4), (0, 1)):
            card = (HOLES, side, start, pack)
            for letter, place in (("F", 1), ("B", -1), ("I", 0)):
                turn = ("I", letter) if pack else (letter, "I")
                slant = "-" if letter == "I" else ("/" if letter + side in ("FZ", "BS") else "\\")
                self.assertEqual(band((card,), (turn,)), (((HOLES[(start + place) % 4], slant),),))
                # What the other pack does makes no difference.
                other = ("F", letter) if pack else (letter, "F")
                self.assertEqual(band((card,), (other,)), band((card,), (turn,)))

    def test_beside_slow_ones(self):
        chance = random.Random(171)
        for packs in ALL_PACKS * 40:
            cards, turns = some_cards(chance, packs), some_turns(chance, 24)
            self.assertEqual(band(cards, turns), slow_band(cards, turns))
            self.assertEqual(twist(cards, turns), slow_twist(cards, turns))

    def test_goes_round(self):
        forward = band(CARDS[:1], (("F", "I"),) * 9)
        self.assertEqual([row[0][0] for row in forward], list("gbwrgbwrg"))
        back = band(CARDS[:1], (("B", "I"),) * 5)
        self.assertEqual([row[0] for row in back], [("w", "\\"), ("b", "\\"), ("g", "\\"), ("r", "\\"), ("w", "\\")])


class TwistTest(WeaveTest):
    def test_examples(self):
        turns = (("F", "B"), ("F", "B"), ("B", "B"), ("I", "I"), ("F", "I"))
        self.assertEqual(twist(CARDS, turns), (2, 3))
        self.assertEqual(untwisting(CARDS, turns), (("B", "F"), ("B", "F"), ("I", "F")))
        self.assertEqual(untwisting(CARDS[:1], turns), (("B", "I"), ("B", "I")))
        self.assertEqual(untwisting(CARDS[1:], turns), (("I", "F"),) * 3)
        self.assertEqual((twist(CARDS, ()), untwisting(CARDS, ())), ((0, 0), ()))
        self.assertEqual(twist(CARDS, (("F", "F"),) * 24), (24, -24))
        self.assertEqual(untwisting(CARDS, (("F", "F"),) * 24), (("B", "B"),) * 24)

    def test_beside_shorter_ones(self):
        chance = random.Random(172)
        for packs in ALL_PACKS * 30:
            cards, turns = some_cards(chance, packs), some_turns(chance, 24)
            further = untwisting(cards, turns)
            self.assertEqual(set(slow_twist(cards, turns + further)), {0})
            # A turn takes at most one quarter turn off a card.
            self.assertEqual(len(further), max([abs(count) for count in slow_twist(cards, turns)]))
            for pack in (0, 1):
                used = pack in [card[3] for card in cards]
                letters = "".join([turn[pack] for turn in further])
                self.assertIn(letters.rstrip("I"), ("B" * letters.count("B"), "F" * letters.count("F")))
                self.assertTrue(used or set(letters) <= {"I"})

    def test_wrong_turns(self):
        wrong = [None, 0, "F", ("F", "B"), ("FB",), [("F", "B")], (["F", "B"],), (("F",),), (("F", "B", "I"),)]
        for letter in (None, 0, True, "f", "FB", "", ("F",), ["F"], "S"):
            wrong += [(("F", letter),), ((letter, "I"),), (("F", "B"), (letter, "I"))]
        for function in (band, twist, untwisting):
            for turns in [*wrong, (("F", "B"),) * 25]:
                self.refuses(ArgumentError, "turns", function, CARDS, turns)
            self.assertIsInstance(function(CARDS, (("F", "B"),) * 24), tuple)
            self.stands_any_values(function, CARDS, TURNS)


class CardsTest(WeaveTest):
    def test_wrong_cards(self):
        wrong = [None, 0, (), CARDS[0], list(CARDS), (list(CARDS[0]),), CARDS[:1] * 17, (None,), ((),), (CARDS,)]
        for value in (None, 0, True, (), "rgbw", list(HOLES), HOLES[:3], (*HOLES, "r")):
            wrong.append(((value, "Z", 0, 0),))
        for colour in ("", "1r", "_r", "r g", "r-", "r" * 13, "\u00e9", None, 0, ("r",)):
            wrong += [(((colour, *HOLES[1:]), "Z", 0, 0),), (((*HOLES[:3], colour), "Z", 0, 0),)]
        for side in ("s", "z", "", "SZ", None, 0, ("S",)):
            wrong.append(((HOLES, side, 0, 0),))
        for number in (4, -1, True, None, "0", (0,), 10 ** 30):
            wrong.append(((HOLES, "Z", number, 0),))
        for number in (2, -1, False, None, "0", (0,), 10 ** 30):
            wrong.append(((HOLES, "Z", 0, number),))
        wrong += [((HOLES, "Z", 0),), ((HOLES, "Z", 0, 0, 0),)]
        wrong += [(*CARDS, *cards) for cards in wrong if type(cards) is tuple and cards and len(cards) < 15]
        wrong += [(*cards, *CARDS) for cards in wrong if type(cards) is tuple and cards and len(cards) < 15]
        functions = (band, twist, untwisting, turn_table, turns_for)
        functions += (lambda cards, rest: accept_turn_table(cards, rest, None),)
        for function in functions:
            for cards in wrong:
                self.refuses(ArgumentError, "cards", function, cards, ())
                self.refuses(ArgumentError, "cards", function, cards, None)

    def test_most(self):
        long = (("Abc_0123456z", "r", "r", "r"), "S", 3, 1)
        for function in (band, twist, untwisting, turn_table, turns_for):
            function(CARDS[:1] * 16, ())
            function((long,), ())
        self.assertEqual(band((long,), (("I", "F"),)), ((("Abc_0123456z", "\\"),),))


class PictureTest(WeaveTest):
    def test_examples(self):
        self.assertEqual(turns_for(CARDS, (("w", "b"),)), (("B", "F"),))
        self.assertIsNone(turns_for(CARDS, (("b", None),)))
        self.assertEqual(turn_table(CARDS, (("w", "b"),)), (((0, 0),), ((3, 1),)))
        self.assertEqual(turn_table(CARDS, (("b", None), (None, None))), (((0, 0),), (), ()))
        self.assertEqual((turns_for(CARDS, ()), turn_table(CARDS, ())), ((), (((0, 0),),)))
        self.assertEqual(turn_table(CARDS, ((None, None),))[1], tuple(itertools.product((0, 1, 3), repeat=2)))
        self.assertEqual(turn_table(CARDS, (("no name!" * 9, ""),)), (((0, 0),), ()))

    def test_a_pack_without_cards(self):
        self.assertEqual(turn_table(CARDS[:1], (("g",),)), (((0, 0),), ((1, 0), (1, 1), (1, 3))))
        self.assertEqual(turn_table(CARDS[1:], (("r",),)), (((0, 0),), ((0, 3), (1, 3), (3, 3))))

    def test_beside_trying_all_turns(self):
        chance = random.Random(173)
        answers = {True: 0, False: 0}
        for packs in ALL_PACKS * 40:
            cards = some_cards(chance, packs)
            colours = ("r", "g", "b", None, None)
            picture = tuple([tuple([chance.choice(colours) for _ in cards]) for _ in range(chance.randint(0, 3))])
            possible = any([shows(cards, turns, picture) for turns in itertools.product(TURNS, repeat=len(picture))])
            turns = turns_for(cards, picture)
            self.assertEqual(turns is not None, possible)
            if possible:
                self.assertEqual((len(turns), set(turns) <= set(TURNS)), (len(picture), True))
                self.assertTrue(shows(cards, turns, picture))
            answers[possible] += 1
        self.assertGreater(min(answers.values()), 30)

    def test_pictures_of_bands(self):
        chance = random.Random(174)
        for packs in ALL_PACKS * 15:
            cards, turns = some_cards(chance, packs), some_turns(chance, 24)
            picture = tuple([
                tuple([colour if chance.random() < 0.7 else None for colour, _ in row])
                for row in slow_band(cards, turns)
            ])
            table = turn_table(cards, picture)
            self.assertEqual(table, slow_table(cards, picture))
            self.assertTrue(shows(cards, turns_for(cards, picture), picture))
            self.assertIsNone(accept_turn_table(cards, picture, table))

    def test_wrong_pictures(self):
        wrong = [None, 0, "w", ("w", "b"), [("w", "b")], (["w", "b"],), (("w",),), (("w", "b", None),), ((),)]
        wrong += [(("w", value),) for value in (0, True, (), ("b",), ["b"])]
        wrong += [(("w", "b"), None), ((None, None),) * 25]
        functions = (turn_table, turns_for, lambda cards, picture: accept_turn_table(cards, picture, None))
        for function in functions:
            for picture in wrong:
                self.refuses(ArgumentError, "picture", function, CARDS, picture)
            self.stands_any_values(function, CARDS, (("w", "b"),))
        self.assertEqual(len(turn_table(CARDS, ((None, None),) * 24)), 25)


class AcceptTest(WeaveTest):
    def is_part(self, value):
        if type(value) is not tuple:
            return False
        for part in value:
            if type(part) is not tuple or len(part) != 2 or {type(place) for place in part} != {int}:
                return False
            if not set(part) <= {0, 1, 2, 3}:
                return False
        return True

    def reason(self, cards, picture, table):
        if type(table) is not tuple or len(table) != len(picture) + 1 or not all(map(self.is_part, table)):
            return "form"
        if table[0] != ((0, 0),):
            return "start"
        return None if table == slow_table(cards, picture) else "row"

    def test_changed_tables(self):
        reasons = set()
        for picture in ((), (("w", "b"),), (("g", None), (None, "r")), (("b", None), (None, None))):
            right = turn_table(CARDS, picture)
            for table in [right, *variants(right), *ODD_VALUES]:
                reason = self.reason(CARDS, picture, table)
                self.judges(reason, accept_turn_table, CARDS, picture, table)
                reasons.add(reason)
        self.assertEqual(reasons, {None, "form", "start", "row"})

    def test_other_tables(self):
        picture = (("w", "b"), ("w", None))
        table = turn_table(CARDS, picture)
        self.judges("form", accept_turn_table, CARDS, picture, (((4, 0),), *table[1:]))
        self.judges("form", accept_turn_table, CARDS, picture, (((1, 0),), (), ((0, 4),)))
        self.judges("start", accept_turn_table, CARDS, picture, (((1, 0),), (), ()))
        self.judges("start", accept_turn_table, CARDS, picture, (((0, 0), (0, 0)), *table[1:]))
        self.judges("row", accept_turn_table, CARDS, picture, (table[0], (), ()))
        self.judges("row", accept_turn_table, CARDS, picture, (*table[:2], table[2][::-1]))
        self.judges("row", accept_turn_table, CARDS, picture, (*table[:2], table[2] + table[2][-1:]))
        self.stands_any_values(accept_turn_table, CARDS, picture, table)
