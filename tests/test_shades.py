import unittest

from lightshares.errors import NoShade
from lightshares.shades import Shade, is_shade, shares_of
from things import BLACK, NO_SHADES, NO_SHARES, SOME_SHADES, WHITE, caught

HALF_SKY = Shade((1, 2), (0, 1), (3, 4))


class Made(unittest.TestCase):
    def test_by_place(self):
        self.assertEqual((HALF_SKY.ember, HALF_SKY.leaf, HALF_SKY.sky), ((1, 2), (0, 1), (3, 4)))

    def test_by_names(self):
        shade = Shade(sky=(3, 4), ember=(1, 2), leaf=(0, 1))
        self.assertEqual((shade.ember, shade.leaf, shade.sky), ((1, 2), (0, 1), (3, 4)))

    def test_edges_and_many_figures(self):
        shade = Shade((0, 1), (1, 1), (10 ** 59, 10 ** 59 + 1))
        self.assertEqual(shares_of(shade), ((0, 1), (1, 1), (10 ** 59, 10 ** 59 + 1)))

    def test_a_share_that_is_none_is_refused_by_its_light(self):
        good = (1, 2)
        for thing in NO_SHARES:
            with self.subTest(repr(thing)):
                self.assertEqual(caught(NoShade, Shade, thing, good, good).light, 0)
                self.assertEqual(caught(NoShade, Shade, good, thing, good).light, 1)
                self.assertEqual(caught(NoShade, Shade, good, good, thing).light, 2)

    def test_the_first_wrong_share_is_told(self):
        self.assertEqual(caught(NoShade, Shade, None, (3, 2), 1).light, 0)
        self.assertEqual(caught(NoShade, Shade, (1, 2), (-1, 2), 1).light, 1)
        self.assertEqual(caught(NoShade, Shade, sky=None, leaf=(2, 4), ember=(1, 1)).light, 1)

    def test_what_was_handed_in_stays(self):
        wrong = [1, 2]
        caught(NoShade, Shade, (1, 2), wrong, (1, 2))
        self.assertEqual(wrong, [1, 2])


class Alike(unittest.TestCase):
    def test_shades_with_the_same_shares(self):
        self.assertIs(HALF_SKY == Shade((1, 2), (0, 1), (3, 4)), True)
        self.assertIs(HALF_SKY != Shade((1, 2), (0, 1), (3, 4)), False)

    def test_shades_are_alike_by_all_three_shares(self):
        for other in (((1, 3), (0, 1), (3, 4)), ((1, 2), (1, 1), (3, 4)), ((1, 2), (0, 1), (1, 4))):
            self.assertIs(HALF_SKY == Shade(*other), False)
            self.assertIs(HALF_SKY != Shade(*other), True)
        for place, one in enumerate(SOME_SHADES):
            for other_place, other in enumerate(SOME_SHADES):
                self.assertIs(one == other, place == other_place)

    def test_things_of_other_kinds_are_not_alike(self):
        for thing in NO_SHADES + ["1/2 0 3/4", "Shade(1/2 0 3/4)"]:
            with self.subTest(repr(thing)):
                self.assertIs(HALF_SKY == thing, False)
                self.assertIs(HALF_SKY != thing, True)
                self.assertIs(thing == HALF_SKY, False)
                self.assertIs(thing != HALF_SKY, True)
        self.assertIs(BLACK == 0, False)
        self.assertIs(BLACK == ((0, 1), (0, 1), (0, 1)), False)


class Shown(unittest.TestCase):
    def test_len_is_how_many_lights_are_above_0(self):
        for shade in SOME_SHADES:
            many = [shade.ember, shade.leaf, shade.sky].count((0, 1))
            self.assertEqual(len(shade), 3 - many)
        self.assertEqual(len(HALF_SKY), 2)
        self.assertEqual(len(WHITE), 3)
        self.assertEqual(len(Shade((0, 1), (1, 10 ** 59), (0, 1))), 1)

    def test_black_alone_is_false(self):
        self.assertIs(bool(BLACK), False)
        for shade in SOME_SHADES:
            self.assertIs(bool(shade), shade != BLACK)
        self.assertIs(bool(Shade((0, 1), (0, 1), (1, 10 ** 59))), True)

    def test_str(self):
        self.assertEqual(str(HALF_SKY), "1/2 0 3/4")
        self.assertEqual(str(BLACK), "0 0 0")
        self.assertEqual(str(WHITE), "1 1 1")
        self.assertEqual(str(Shade((1, 3), (1, 1), (254, 255))), "1/3 1 254/255")

    def test_repr(self):
        self.assertEqual(repr(HALF_SKY), "Shade(1/2 0 3/4)")
        self.assertEqual(repr(BLACK), "Shade(0 0 0)")

    def test_str_of_many_figures(self):
        for many in (59, 63, 64, 65, 127, 128, 129, 200, 5000):
            nines = Shade((10 ** many - 1, 10 ** many), (1, 10 ** many + 1), (10 ** many, 10 ** many + 1))
            great = "1" + "0" * many
            more = "1" + "0" * (many - 1) + "1"
            self.assertEqual(str(nines), f"{'9' * many}/{great} 1/{more} {great}/{more}")


class Asked(unittest.TestCase):
    def test_is_shade(self):
        self.assertIs(is_shade(HALF_SKY), True)
        self.assertIs(is_shade(BLACK), True)
        self.assertIs(is_shade(thing=WHITE), True)
        for thing in NO_SHADES:
            with self.subTest(repr(thing)):
                self.assertIs(is_shade(thing), False)

    def test_shares_of(self):
        self.assertEqual(shares_of(HALF_SKY), ((1, 2), (0, 1), (3, 4)))
        self.assertEqual(shares_of(shade=BLACK), ((0, 1), (0, 1), (0, 1)))
        self.assertIsInstance(shares_of(HALF_SKY), tuple)

    def test_shares_of_what_is_no_shade_is_refused(self):
        for thing in NO_SHADES:
            with self.subTest(repr(thing)):
                self.assertIsNone(caught(NoShade, shares_of, thing).light)


if __name__ == "__main__":
    unittest.main()
