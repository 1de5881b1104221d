import unittest
from fractions import Fraction
from math import floor, isqrt

from lightshares.errors import NoNumber
from lightshares.fractions import (
    below, fraction, is_fraction, minus, nearest_whole, over, plus, root_above, times,
)
from things import NO_FRACTIONS, caught

GREAT = 10 ** 59 + 7
SOME = [
    (0, 1), (1, 1), (-1, 1), (2, 1), (-7, 1), (1, 2), (-1, 2), (3, 2), (-3, 2), (5, 6), (-5, 6), (7, 255),
    (GREAT, 10 ** 58), (-GREAT, 10 ** 58), (1, GREAT), (GREAT + 1, GREAT), (GREAT, 1),
]


def worth(one):
    return Fraction(one[0], one[1])


def as_tuple(value):
    return (value.numerator, value.denominator)


class IsFraction(unittest.TestCase):
    def test_fractions_are(self):
        for one in SOME:
            self.assertIs(is_fraction(one), True, one)
        self.assertIs(is_fraction(thing=(1, 2)), True)

    def test_things_of_other_kinds_are_none(self):
        for thing in NO_FRACTIONS:
            with self.subTest(repr(thing)):
                self.assertIs(is_fraction(thing), False)


class Made(unittest.TestCase):
    def test_in_lowest_terms(self):
        self.assertEqual(fraction(6, 4), (3, 2))
        self.assertEqual(fraction(-6, 4), (-3, 2))
        self.assertEqual(fraction(0, 5), (0, 1))
        self.assertEqual(fraction(12, 4), (3, 1))

    def test_bottom_is_above_0(self):
        self.assertEqual(fraction(6, -4), (-3, 2))
        self.assertEqual(fraction(-6, -4), (3, 2))
        self.assertEqual(fraction(0, -5), (0, 1))

    def test_bottom_left_out_is_1(self):
        self.assertEqual(fraction(5), (5, 1))
        self.assertEqual(fraction(-5), (-5, 1))
        self.assertEqual(fraction(0), (0, 1))

    def test_by_names(self):
        self.assertEqual(fraction(bottom=4, top=6), (3, 2))
        self.assertEqual(fraction(top=6), (6, 1))

    def test_many_figures(self):
        self.assertEqual(fraction(GREAT * 6, GREAT * -4), (-3, 2))
        self.assertEqual(fraction(10 ** 59, 4 * 10 ** 59 + 2), as_tuple(Fraction(10 ** 59, 4 * 10 ** 59 + 2)))

    def test_all_small_ones(self):
        for top in range(-12, 13):
            for bottom in list(range(-12, 0)) + list(range(1, 13)):
                told = fraction(top, bottom)
                self.assertEqual(told, as_tuple(Fraction(top, bottom)))
                self.assertIsInstance(told, tuple)

    def test_what_is_no_whole_number_is_refused_by_its_place(self):
        for thing in (None, True, False, "1", b"1", [1], (1, 1), (1,), {}, object()):
            with self.subTest(repr(thing)):
                self.assertEqual(caught(NoNumber, fraction, thing).place, 0)
                self.assertEqual(caught(NoNumber, fraction, thing, 2).place, 0)
                self.assertEqual(caught(NoNumber, fraction, 1, thing).place, 1)
                self.assertEqual(caught(NoNumber, fraction, bottom=thing, top=thing).place, 0)

    def test_a_bottom_of_0_is_refused_behind_the_top(self):
        self.assertEqual(caught(NoNumber, fraction, 1, 0).place, 1)
        self.assertEqual(caught(NoNumber, fraction, 0, 0).place, 1)
        self.assertEqual(caught(NoNumber, fraction, None, 0).place, 0)
        self.assertEqual(caught(NoNumber, fraction, bottom=0, top=1).place, 1)


class Reckoned(unittest.TestCase):
    def test_written_out(self):
        self.assertEqual(plus((1, 2), (1, 3)), (5, 6))
        self.assertEqual(plus((1, 2), (1, 2)), (1, 1))
        self.assertEqual(plus((1, 2), (-1, 2)), (0, 1))
        self.assertEqual(minus((1, 2), (1, 3)), (1, 6))
        self.assertEqual(minus((1, 3), (1, 2)), (-1, 6))
        self.assertEqual(times((2, 3), (3, 4)), (1, 2))
        self.assertEqual(times((-2, 3), (0, 1)), (0, 1))
        self.assertEqual(over((1, 2), (1, 4)), (2, 1))
        self.assertEqual(over((1, 2), (-1, 4)), (-2, 1))
        self.assertEqual(over((0, 1), (-1, 4)), (0, 1))

    def test_by_names(self):
        self.assertEqual(plus(other=(1, 3), one=(1, 2)), (5, 6))
        self.assertEqual(minus(other=(1, 3), one=(1, 2)), (1, 6))
        self.assertEqual(times(other=(3, 4), one=(2, 3)), (1, 2))
        self.assertEqual(over(other=(1, 4), one=(1, 2)), (2, 1))
        self.assertIs(below(other=(1, 2), one=(1, 3)), True)
        self.assertEqual(nearest_whole(one=(7, 2)), 4)
        self.assertEqual(root_above(one=(7, 2)), 2)

    def test_any_two(self):
        for one in SOME:
            for other in SOME:
                self.assertEqual(plus(one, other), as_tuple(worth(one) + worth(other)))
                self.assertEqual(minus(one, other), as_tuple(worth(one) - worth(other)))
                self.assertEqual(times(one, other), as_tuple(worth(one) * worth(other)))
                self.assertIs(below(one, other), worth(one) < worth(other))
                if other != (0, 1):
                    self.assertEqual(over(one, other), as_tuple(worth(one) / worth(other)))

    def test_below_of_alike_ones_is_false(self):
        for one in SOME:
            self.assertIs(below(one, one), False)

    def test_what_is_no_fraction_is_refused_by_its_place(self):
        for reckon in (plus, minus, times, over, below):
            for thing in NO_FRACTIONS:
                with self.subTest(f"{reckon.__name__} {thing!r}"):
                    self.assertEqual(caught(NoNumber, reckon, thing, (1, 2)).place, 0)
                    self.assertEqual(caught(NoNumber, reckon, (1, 2), thing).place, 1)
                    self.assertEqual(caught(NoNumber, reckon, thing, None).place, 0)
                    self.assertEqual(caught(NoNumber, reckon, other=thing, one=None).place, 0)

    def test_dividing_by_0_is_refused_behind_the_first(self):
        for one in SOME:
            self.assertEqual(caught(NoNumber, over, one, (0, 1)).place, 1)
        self.assertEqual(caught(NoNumber, over, 1, (0, 1)).place, 0)

    def test_what_was_handed_in_stays(self):
        wrong = [1, [2, {}]]
        caught(NoNumber, plus, wrong, (1, 2))
        self.assertEqual(wrong, [1, [2, {}]])


class NearestWhole(unittest.TestCase):
    def test_halves_go_to_the_greater_one(self):
        for top, told in ((1, 1), (-1, 0), (3, 2), (-3, -1), (5, 3), (-5, -2)):
            self.assertEqual(nearest_whole((top, 2)), told)

    def test_any(self):
        for bottom in range(1, 13):
            for top in range(-40, 41):
                one = as_tuple(Fraction(top, bottom))
                self.assertEqual(nearest_whole(one), floor(worth(one) + Fraction(1, 2)))

    def test_whole_ones_are_their_own(self):
        for whole in (0, 1, -1, GREAT, -GREAT):
            self.assertEqual(nearest_whole((whole, 1)), whole)

    def test_many_figures(self):
        self.assertEqual(nearest_whole((2 * GREAT + 1, 2)), GREAT + 1)
        self.assertEqual(nearest_whole((-2 * GREAT - 1, 2)), -GREAT)
        self.assertEqual(nearest_whole((10 ** 59 * 3 + 1, 3)), 10 ** 59)

    def test_what_is_no_fraction_is_refused(self):
        for thing in NO_FRACTIONS:
            with self.subTest(repr(thing)):
                self.assertEqual(caught(NoNumber, nearest_whole, thing).place, 0)


class RootAbove(unittest.TestCase):
    def test_small_ones(self):
        for top, told in ((0, 0), (1, 1), (2, 2), (3, 2), (4, 2), (5, 3), (8, 3), (9, 3), (10, 4)):
            self.assertEqual(root_above((top, 1)), told)

    def test_any(self):
        for bottom in range(1, 13):
            for top in range(0, 400):
                one = as_tuple(Fraction(top, bottom))
                told = root_above(one)
                self.assertGreaterEqual(told, 0)
                self.assertGreaterEqual(told * told, worth(one))
                self.assertTrue(told == 0 or (told - 1) ** 2 < worth(one))

    def test_squares_and_a_part_more_or_less(self):
        for root in (1, 2, 3, 10, 255, 2 ** 32, 10 ** 29 + 3):
            square = root * root
            self.assertEqual(root_above((square, 1)), root)
            self.assertEqual(root_above((square + 1, 1)), root + 1)
            for bottom in (2, 7, 10 ** 50 + 1):
                self.assertEqual(root_above((square * bottom + 1, bottom)), root + 1)
                self.assertEqual(root_above((square * bottom - 1, bottom)), root)

    def test_a_part_of_1(self):
        for bottom in (2, 3, GREAT):
            self.assertEqual(root_above((1, bottom)), 1)

    def test_many_figures(self):
        for number in (GREAT, GREAT ** 2, GREAT ** 2 - 1, GREAT ** 2 + 1, 10 ** 400 + 9):
            self.assertEqual(root_above((number, 1)), isqrt(number - 1) + 1)

    def test_one_below_0_is_refused(self):
        for one in ((-1, 1), (-1, 2), (-GREAT, 1), (-1, GREAT)):
            self.assertEqual(caught(NoNumber, root_above, one).place, 0)

    def test_what_is_no_fraction_is_refused(self):
        for thing in NO_FRACTIONS:
            with self.subTest(repr(thing)):
                self.assertEqual(caught(NoNumber, root_above, thing).place, 0)


if __name__ == "__main__":
    unittest.main()
