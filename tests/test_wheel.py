import unittest
from fractions import Fraction

from lightshares.deeds import opposite, turned
from lightshares.errors import NoPart, NoTurn
from lightshares.errors import NoShade
from lightshares.fractions import fraction, is_fraction
from lightshares.shades import Shade, shares_of
from lightshares.wheel import by_wheel, wheel_of
from things import BLACK, NO_FRACTIONS, NO_SHADES, SOME_SHADES, WHITE, caught

GREAT = 10 ** 59 + 7
NO_PARTS = NO_FRACTIONS + [(-1, 1), (-1, 2), (-1, GREAT)]
NO_TURNS = [thing for thing in NO_FRACTIONS if thing is not None] + [
    (-1, 1), (-1, 2), (-1, GREAT), (6, 1), (7, 1), (13, 2), (6 * GREAT + 1, GREAT),
]

# The places of the greatest, the least and the other light, and TURN by F, as the document has them.
ROWS = [
    (0, 2, 1, lambda part: part),
    (1, 2, 0, lambda part: 2 - part),
    (1, 0, 2, lambda part: 2 + part),
    (2, 0, 1, lambda part: 4 - part),
    (2, 1, 0, lambda part: 4 + part),
    (0, 1, 2, lambda part: 6 - part),
]


def as_tuple(value):
    return (value.numerator, value.denominator)


def laid(greatest, least, middle, shares):
    row = [None, None, None]
    row[greatest], row[least], row[middle] = shares
    return Shade(*[as_tuple(Fraction(share)) for share in row])


class Of(unittest.TestCase):
    def test_written_out(self):
        self.assertEqual(wheel_of(Shade((1, 2), (0, 1), (3, 4))), ((14, 3), (0, 1), (1, 4)))
        self.assertEqual(wheel_of(Shade((4, 5), (2, 5), (1, 5))), ((1, 3), (1, 5), (1, 5)))
        self.assertEqual(wheel_of(shade=Shade((2, 5), (4, 5), (1, 5))), ((5, 3), (1, 5), (1, 5)))

    def test_each_row(self):
        most, least = Fraction(7, 8), Fraction(1, 5)
        for part in (Fraction(1, 2), Fraction(1, 3), Fraction(1, GREAT), Fraction(GREAT - 1, GREAT)):
            middle = least + part * (most - least)
            for greatest_light, least_light, middle_light, turn in ROWS:
                shade = laid(greatest_light, least_light, middle_light, (most, least, middle))
                told = (as_tuple(turn(part)), (1, 5), (1, 8))
                self.assertEqual(wheel_of(shade), told)
                self.assertEqual(by_wheel((1, 5), (1, 8), told[0]), shade)

    def test_seams(self):
        for turn, lights in enumerate(((1, 0, 0), (1, 1, 0), (0, 1, 0), (0, 1, 1), (0, 0, 1), (1, 0, 1))):
            clear = Shade(*[(light, 1) for light in lights])
            self.assertEqual(wheel_of(clear), ((turn, 1), (0, 1), (0, 1)))
            self.assertEqual(by_wheel((0, 1), (0, 1), (turn, 1)), clear)
            mild = Shade(*[(3, 4) if light else (1, 3) for light in lights])
            self.assertEqual(wheel_of(mild), ((turn, 1), (1, 3), (1, 4)))
            self.assertEqual(by_wheel((1, 3), (1, 4), (turn, 1)), mild)

    def test_greys_black_and_white(self):
        self.assertEqual(wheel_of(BLACK), (None, (0, 1), (1, 1)))
        self.assertEqual(wheel_of(WHITE), (None, (1, 1), (0, 1)))
        self.assertEqual(wheel_of(Shade((2, 7), (2, 7), (2, 7))), (None, (2, 7), (5, 7)))

    def test_any_shade(self):
        for shade in SOME_SHADES:
            told = wheel_of(shade)
            self.assertIsInstance(told, tuple)
            turn, white, black = told
            shares = [Fraction(*share) for share in shares_of(shade)]
            self.assertEqual(white, as_tuple(min(shares)))
            self.assertEqual(black, as_tuple(1 - max(shares)))
            if len(set(shares)) == 1:
                self.assertIsNone(turn)
                continue
            self.assertTrue(is_fraction(turn) and 0 <= Fraction(*turn) < 6)
            for greatest, least, middle, turn_by in ROWS:
                if shares[greatest] == max(shares) and shares[least] == min(shares):
                    part = (shares[middle] - min(shares)) / (max(shares) - min(shares))
                    self.assertEqual(Fraction(*turn), turn_by(part) % 6)

    def test_what_is_no_shade_is_refused(self):
        for thing in NO_SHADES:
            with self.subTest(repr(thing)):
                self.assertIsNone(caught(NoShade, wheel_of, thing).light)


class Back(unittest.TestCase):
    def test_a_shades_place_is_its_own(self):
        places = []
        for shade in SOME_SHADES:
            turn, white, black = wheel_of(shade)
            self.assertEqual(by_wheel(white, black, turn), shade)
            places.append((turn, white, black))
        self.assertEqual(len(set(places)), len(SOME_SHADES))

    def test_a_places_shade_has_it(self):
        for white, black in (((0, 1), (0, 1)), ((1, 3), (1, 4)), ((0, 1), (GREAT - 1, GREAT)), ((4, 9), (5, 11))):
            for bottom in (1, 2, 3, 7, GREAT):
                for top in list(range(0, min(6 * bottom, 42))) + [6 * bottom - 1]:
                    turn = fraction(top, bottom)
                    self.assertEqual(wheel_of(by_wheel(white, black, turn)), (turn, white, black))

    def test_turn_left_out_and_none(self):
        grey = Shade((2, 7), (2, 7), (2, 7))
        self.assertEqual(by_wheel((2, 7), (5, 7)), grey)
        self.assertEqual(by_wheel((2, 7), (5, 7), None), grey)
        self.assertEqual(by_wheel((1, 1), (0, 1)), WHITE)
        self.assertEqual(by_wheel((0, 1), (1, 1)), BLACK)

    def test_by_names(self):
        self.assertEqual(by_wheel(turn=(14, 3), black=(1, 4), white=(0, 1)), Shade((1, 2), (0, 1), (3, 4)))
        self.assertEqual(by_wheel(black=(5, 7), white=(2, 7)), Shade((2, 7), (2, 7), (2, 7)))
        self.assertEqual(by_wheel(turn=None, black=(1, 1), white=(0, 1)), BLACK)

    def test_turned_by_one_light_is_two_turns_on(self):
        for shade in SOME_SHADES:
            turn, white, black = wheel_of(shade)
            if turn is not None:
                on = as_tuple((Fraction(*turn) + 2) % 6)
                self.assertEqual(wheel_of(turned(shade)), (on, white, black))


class Across(unittest.TestCase):
    def test_the_opposite_stands_just_across(self):
        for shade in SOME_SHADES:
            turn, white, black = wheel_of(shade)
            across = None if turn is None else as_tuple((Fraction(*turn) + 3) % 6)
            self.assertEqual(wheel_of(opposite(shade)), (across, black, white))
            self.assertEqual(by_wheel(black, white, across), opposite(shade))


class Refused(unittest.TestCase):
    def test_white_ahead_of_black_ahead_of_turn(self):
        for thing in NO_PARTS:
            with self.subTest(repr(thing)):
                for black in ((0, 1), (1, 1), None, (-1, 2)):
                    for turn in (None, (1, 1), (7, 1), "no"):
                        self.assertIs(caught(NoPart, by_wheel, thing, black, turn).part, thing)
                for turn in (None, (1, 1), (7, 1), "no"):
                    self.assertIs(caught(NoPart, by_wheel, (0, 1), thing, turn).part, thing)
                    self.assertIs(caught(NoPart, by_wheel, turn=turn, black=thing, white=(2, 1)).part, thing)
                self.assertIs(caught(NoPart, by_wheel, black=None, white=thing).part, thing)

    def test_a_turn_that_is_none(self):
        for thing in NO_TURNS:
            with self.subTest(repr(thing)):
                for white, black in (((0, 1), (0, 1)), ((1, 3), (1, 3)), ((1, 2), (1, 2)), ((2, 1), (0, 1))):
                    self.assertIs(caught(NoTurn, by_wheel, white, black, thing).part, thing)

    def test_without_a_turn_they_are_1_together(self):
        for white, black in (((0, 1), (0, 1)), ((1, 3), (1, 3)), ((1, 2), (1, 3)), ((1, 1), (1, GREAT)),
                             ((2, 1), (0, 1)), ((0, 1), (2, 1)), ((GREAT - 1, GREAT), (0, 1))):
            self.assertIsNone(caught(NoTurn, by_wheel, white, black).part)
            self.assertIsNone(caught(NoTurn, by_wheel, white, black, None).part)

    def test_with_a_turn_they_are_less_than_1_together(self):
        for turn in ((0, 1), (1, 2), (5, 1), (6 * GREAT - 1, GREAT)):
            for white, black in (((1, 2), (1, 2)), ((1, 1), (0, 1)), ((0, 1), (1, 1)), ((2, 1), (0, 1)),
                                 ((0, 1), (3, 2)), ((1, 1), (1, GREAT))):
                self.assertIs(caught(NoTurn, by_wheel, white, black, turn).part, turn)
            told = by_wheel((GREAT - 1, GREAT), (0, 1), turn)
            self.assertEqual(wheel_of(told), (turn, (GREAT - 1, GREAT), (0, 1)))


if __name__ == "__main__":
    unittest.main()
