import unittest
from fractions import Fraction

from lightshares.errors import NoEye, NoShade
from lightshares.fractions import is_fraction
from lightshares.nearness import far
from lightshares.shades import Shade, shares_of
from things import BLACK, NO_EYES, NO_SHADES, SOME_SHADES, WHITE, caught

GREAT = 10 ** 59 + 7
ONE = Shade((1, 2), (0, 1), (3, 4))
OTHER = Shade((1, 3), (1, 1), (0, 1))
EYES = [(1, 1, 1), (2, 1, 1), (1, 3, 1), (1, 1, 4), (3, 6, 1), (99, 99, 99), (1, 99, 50)]


def by_hand(shade, other, eye):
    pairs = zip(shares_of(shade), shares_of(other), eye)
    value = sum(many * (Fraction(*one) - Fraction(*two)) ** 2 for one, two, many in pairs)
    return (value.numerator, value.denominator)


class Far(unittest.TestCase):
    def test_written_out(self):
        self.assertEqual(far(BLACK, WHITE), (3, 1))
        self.assertEqual(far(BLACK, WHITE, (2, 3, 4)), (9, 1))
        self.assertEqual(far(BLACK, WHITE, (99, 99, 99)), (297, 1))
        self.assertEqual(far(ONE, BLACK), (13, 16))
        self.assertEqual(far(ONE, OTHER), (229, 144))
        self.assertEqual(far(ONE, OTHER, (3, 6, 1)), (319, 48))

    def test_each_light_so_many_times(self):
        for light in range(3):
            shade = Shade(*[(1, 2) if place == light else (0, 1) for place in range(3)])
            eye = tuple([7 if place == light else 90 for place in range(3)])
            self.assertEqual(far(shade, BLACK, eye), (7, 4))

    def test_eye_left_out_and_none(self):
        self.assertEqual(far(ONE, OTHER), far(ONE, OTHER, (1, 1, 1)))
        self.assertEqual(far(ONE, OTHER, None), far(ONE, OTHER, (1, 1, 1)))

    def test_by_names(self):
        self.assertEqual(far(eye=(3, 6, 1), other=OTHER, shade=ONE), (319, 48))
        self.assertEqual(far(other=OTHER, shade=ONE), (229, 144))

    def test_any_shades_by_any_eye_either_way_about(self):
        for eye in EYES:
            for shade in SOME_SHADES[::4]:
                for other in SOME_SHADES[::7]:
                    told = far(shade, other, eye)
                    self.assertEqual(told, by_hand(shade, other, eye))
                    self.assertEqual(told, far(other, shade, eye))
                    self.assertIs(type(told), tuple)
                    self.assertTrue(is_fraction(told))

    def test_from_itself_and_from_one_alike(self):
        for shade in SOME_SHADES:
            self.assertEqual(far(shade, shade), (0, 1))
            self.assertEqual(far(shade, Shade(*shares_of(shade)), (5, 6, 7)), (0, 1))

    def test_many_figures(self):
        one = Shade((1, GREAT), (GREAT - 1, GREAT), (GREAT - 4, GREAT - 2))
        other = Shade((3, GREAT + 2), (1, GREAT), (5, GREAT - 6))
        for eye in EYES:
            self.assertEqual(far(one, other, eye), by_hand(one, other, eye))
        self.assertEqual(far(Shade((1, GREAT), (0, 1), (0, 1)), BLACK), (1, GREAT ** 2))

    def test_what_is_handed_in_stays(self):
        eye = (3, 6, 1)
        far(ONE, OTHER, eye)
        self.assertEqual((str(ONE), str(OTHER), eye), ("1/2 0 3/4", "1/3 1 0", (3, 6, 1)))

    def test_what_is_no_shade_is_refused_ahead_of_the_eye(self):
        for thing in NO_SHADES:
            with self.subTest(repr(thing)):
                for eye in (None, (1, 1, 1), (0, 0, 0), "no"):
                    self.assertIsNone(caught(NoShade, far, thing, ONE, eye).light)
                    self.assertIsNone(caught(NoShade, far, ONE, thing, eye).light)
                    self.assertIsNone(caught(NoShade, far, thing, thing, eye).light)
                self.assertIsNone(caught(NoShade, far, thing, ONE).light)
                self.assertIsNone(caught(NoShade, far, ONE, thing).light)

    def test_what_is_no_eye_is_refused(self):
        for thing in NO_EYES:
            with self.subTest(repr(thing)):
                self.assertIs(caught(NoEye, far, ONE, OTHER, thing).eye, thing)
                self.assertIs(caught(NoEye, far, eye=thing, other=ONE, shade=ONE).eye, thing)

    def test_edges_of_eyes(self):
        for eye in ((1, 1, 1), (99, 1, 1), (1, 99, 1), (1, 1, 99)):
            self.assertEqual(far(BLACK, WHITE, eye), (sum(eye), 1))


if __name__ == "__main__":
    unittest.main()
