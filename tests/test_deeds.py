import unittest
from fractions import Fraction

from lightshares.deeds import darker, done, duller, each, lighter, opposite, turned
from lightshares.errors import NoDeed, NoPart, NoShade
from lightshares.mixing import mix
from lightshares.shades import Shade, shares_of
from things import BLACK, NO_SHADES, NO_SHARES, SOME_SHADES, WHITE, caught

ONE = Shade((1, 2), (0, 1), (3, 4))
GREAT = 10 ** 59 + 7
PARTS = [(0, 1), (1, 1), (1, 2), (1, 3), (254, 255), (1, GREAT), (GREAT - 1, GREAT)]
NO_PARTS = [thing for thing in NO_SHARES if thing is not None]
NO_WHOLES = [True, False, "1", "", b"1", [], [1], (), (1,), (1, 1), (1, 2), {}, object(), ONE, len]


def by_hand(shade, change):
    """The Shade of CHANGE, done to each share as Python's own fraction, with a third of all three."""
    shares = [Fraction(*share) for share in shares_of(shade)]
    third = sum(shares) / 3
    changed = [change(share, third) for share in shares]
    return Shade(*[(share.numerator, share.denominator) for share in changed])


class ByParts(unittest.TestCase):
    CHANGES = {
        lighter: lambda part: lambda share, third: share + part * (1 - share),
        darker: lambda part: lambda share, third: share - part * share,
        duller: lambda part: lambda share, third: share + part * (third - share),
    }

    def test_written_out(self):
        self.assertEqual(str(lighter(ONE)), "3/4 1/2 7/8")
        self.assertEqual(str(darker(ONE)), "1/4 0 3/8")
        self.assertEqual(str(duller(ONE)), "11/24 5/24 7/12")
        self.assertEqual(str(lighter(ONE, (1, 3))), "2/3 1/3 5/6")
        self.assertEqual(str(darker(ONE, (1, 3))), "1/3 0 1/2")
        self.assertEqual(str(duller(ONE, (1, 1))), "5/12 5/12 5/12")

    def test_by_left_out_or_none_is_a_half(self):
        for deed in self.CHANGES:
            for shade in SOME_SHADES:
                self.assertEqual(deed(shade), deed(shade, (1, 2)))
                self.assertEqual(deed(shade, None), deed(shade, (1, 2)))

    def test_by_names(self):
        for deed in self.CHANGES:
            self.assertEqual(deed(by=(1, 3), shade=ONE), deed(ONE, (1, 3)))
            self.assertEqual(deed(shade=ONE), deed(ONE, (1, 2)))
            self.assertEqual(deed(by=None, shade=ONE), deed(ONE, (1, 2)))

    def test_any_shade_by_any_part(self):
        for deed, change in self.CHANGES.items():
            for part in PARTS:
                for shade in SOME_SHADES:
                    self.assertEqual(deed(shade, part), by_hand(shade, change(Fraction(*part))))

    def test_by_0_nothing_changes_and_by_1_all(self):
        for shade in SOME_SHADES:
            for deed in self.CHANGES:
                self.assertEqual(deed(shade, (0, 1)), shade)
            self.assertEqual(lighter(shade, (1, 1)), WHITE)
            self.assertEqual(darker(shade, (1, 1)), BLACK)
            grey = duller(shade, (1, 1))
            self.assertTrue(grey.ember == grey.leaf == grey.sky)

    def test_a_by_that_is_none_is_refused(self):
        for deed in self.CHANGES:
            for thing in NO_PARTS + [5, -1, 2]:
                with self.subTest(f"{deed.__name__} {thing!r}"):
                    self.assertIs(caught(NoPart, deed, ONE, thing).part, thing)
                    self.assertIs(caught(NoPart, deed, by=thing, shade=ONE).part, thing)

    def test_what_is_no_shade_is_refused_ahead_of_by(self):
        for deed in self.CHANGES:
            for thing in NO_SHADES:
                with self.subTest(f"{deed.__name__} {thing!r}"):
                    self.assertIsNone(caught(NoShade, deed, thing).light)
                    self.assertIsNone(caught(NoShade, deed, thing, (3, 2)).light)
                    self.assertIsNone(caught(NoShade, deed, by="no", shade=thing).light)

    def test_the_shade_handed_in_stays(self):
        for deed in self.CHANGES:
            deed(ONE, (1, 3))
            caught(NoPart, deed, ONE, (3, 2))
            self.assertEqual(str(ONE), "1/2 0 3/4")


class Opposite(unittest.TestCase):
    def test_each_share_is_what_it_lacked(self):
        self.assertEqual(str(opposite(ONE)), "1/2 1 1/4")
        self.assertEqual(opposite(BLACK), WHITE)
        self.assertEqual(opposite(shade=WHITE), BLACK)
        for shade in SOME_SHADES:
            self.assertEqual(opposite(shade), by_hand(shade, lambda share, third: 1 - share))

    def test_the_opposite_of_the_opposite_is_the_shade(self):
        for shade in SOME_SHADES:
            self.assertEqual(opposite(opposite(shade)), shade)

    def test_what_is_no_shade_is_refused(self):
        for thing in NO_SHADES:
            with self.subTest(repr(thing)):
                self.assertIsNone(caught(NoShade, opposite, thing).light)


class Turned(unittest.TestCase):
    def test_the_share_of_a_light_goes_to_the_one_behind(self):
        self.assertEqual(str(turned(ONE, 1)), "3/4 1/2 0")
        self.assertEqual(str(turned(ONE, 2)), "0 3/4 1/2")
        self.assertEqual(str(turned(ONE, -1)), "0 3/4 1/2")
        self.assertEqual(turned(ONE, 0), ONE)

    def test_by_left_out_or_none_is_1(self):
        self.assertEqual(turned(ONE), turned(ONE, 1))
        self.assertEqual(turned(ONE, None), turned(ONE, 1))
        self.assertEqual(turned(by=None, shade=ONE), turned(ONE, 1))
        self.assertEqual(turned(by=2, shade=ONE), turned(ONE, 2))

    def test_any_whole_number(self):
        for by in list(range(-8, 9)) + [10 ** 59, -10 ** 59, GREAT, -GREAT]:
            told = shares_of(turned(ONE, by))
            for light, share in enumerate(shares_of(ONE)):
                self.assertEqual(told[(light + by) % 3], share)
            self.assertEqual(turned(turned(ONE, by), -by), ONE)

    def test_a_by_that_is_no_whole_number_is_refused(self):
        for thing in NO_WHOLES:
            with self.subTest(repr(thing)):
                self.assertIs(caught(NoPart, turned, ONE, thing).part, thing)

    def test_what_is_no_shade_is_refused_ahead_of_by(self):
        for thing in NO_SHADES:
            with self.subTest(repr(thing)):
                self.assertIsNone(caught(NoShade, turned, thing, (1, 2)).light)
                self.assertIsNone(caught(NoShade, turned, thing).light)


class ByName(unittest.TestCase):
    GOOD = [
        ("lighter",), ("darker",), ("duller",), ("turned",), ("opposite",),
        ("lighter", None), ("darker", None), ("duller", None), ("turned", None),
        ("lighter", (1, 3)), ("darker", (0, 1)), ("duller", (1, 1)), ("turned", -4), ("turned", 0),
    ]
    WRONG = [
        None, True, 0, "lighter", "", b"", [], ["lighter"], (), {}, ("lighter", (1, 2), (1, 2)), ("opposite", None),
        ("opposite", (1, 2)), ("opposite", 1), ("Lighter",), ("lighter ",), ("brighter",), ("",), (None,), (0,),
        ([],), ([], (1, 2)), ({},), (ONE,), (b"lighter",), (("lighter",),), ("turned", (1, 1)), ("turned", True),
        ("turned", "1"), ("turned", (1, 2)), ("lighter", 1), ("darker", 0), ("duller", True), ("lighter", (2, 4)),
        ("lighter", (3, 2)), ("darker", (-1, 2)), ("duller", [1, 2]), ("duller", "1/2"), ("lighter", ()), ONE,
        ("turned", 1, None), ((1, 2), "lighter"), (lighter,), (lighter, (1, 2)),
    ]

    def test_none_and_one(self):
        self.assertEqual(done(ONE, ()), ONE)
        for deed, change in ((("lighter", (1, 3)), lighter), (("darker", (1, 3)), darker),
                             (("duller", (1, 3)), duller), (("turned", 2), turned)):
            self.assertEqual(done(ONE, (deed,)), change(ONE, deed[1]))
            self.assertEqual(done(ONE, (deed[:1],)), change(ONE))
            self.assertEqual(done(ONE, ((deed[0], None),)), change(ONE))
        self.assertEqual(done(ONE, (("opposite",),)), opposite(ONE))

    def test_several_one_behind_the_other(self):
        deeds = (("lighter", (1, 3)), ("turned",), ("opposite",), ("duller", None))
        told = duller(opposite(turned(lighter(ONE, (1, 3)))))
        self.assertEqual(done(ONE, deeds), told)
        self.assertEqual(done(deeds=deeds, shade=ONE), told)
        self.assertNotEqual(done(ONE, deeds[::-1]), told)

    def test_twenty(self):
        self.assertEqual(done(ONE, (("turned", 1),) * 20), turned(ONE, 20))
        self.assertEqual(done(ONE, (("opposite",),) * 20), ONE)
        shade = ONE
        for each_time in range(20):
            shade = lighter(shade, (1, 3))
        self.assertEqual(done(ONE, (("lighter", (1, 3)),) * 20), shade)

    def test_what_is_no_tuple_of_at_most_twenty(self):
        for thing in (None, True, 0, "", "lighter", [], [("lighter",)], {}, ONE, (("turned",),) * 21,
                      (("turned",),) * 20 + (None,), (None,) * 21):
            with self.subTest(repr(thing)):
                self.assertIsNone(caught(NoDeed, done, ONE, thing).place)

    def test_the_first_that_is_none_is_told(self):
        for wrong in self.WRONG:
            with self.subTest(repr(wrong)):
                self.assertEqual(caught(NoDeed, done, ONE, (wrong,)).place, 0)
                self.assertEqual(caught(NoDeed, done, ONE, (("opposite",), wrong, None)).place, 1)
                self.assertEqual(caught(NoDeed, done, ONE, (("turned",),) * 19 + (wrong,)).place, 19)

    def test_all_good_ones_are_done(self):
        for deed in self.GOOD:
            self.assertIsInstance(done(ONE, (deed,)), Shade)
        self.assertIsInstance(done(ONE, tuple(self.GOOD)), Shade)

    def test_a_tuple_that_is_one_deed_is_not_deeds(self):
        self.assertEqual(caught(NoDeed, done, ONE, ("opposite",)).place, 0)

    def test_what_is_no_shade_is_refused_ahead(self):
        for thing in NO_SHADES:
            with self.subTest(repr(thing)):
                self.assertIsNone(caught(NoShade, done, thing, ()).light)
                self.assertIsNone(caught(NoShade, done, thing, None).light)
                self.assertIsNone(caught(NoShade, done, thing, (None,)).light)

    def test_many_figures(self):
        part = (GREAT - 1, GREAT)
        told = done(ONE, (("lighter", part), ("duller", part)) * 10)
        shade = ONE
        for each_time in range(10):
            shade = duller(lighter(shade, part), part)
        self.assertEqual(told, shade)


class OfYourOwn(unittest.TestCase):
    def test_none_one_and_sixty(self):
        self.assertEqual(each((), opposite), ())
        self.assertEqual(each((ONE,), opposite), (opposite(ONE),))
        sixty = tuple(SOME_SHADES[:60])
        told = each(sixty, lambda shade: lighter(shade, (1, 3)))
        self.assertIsInstance(told, tuple)
        self.assertEqual(told, tuple([lighter(shade, (1, 3)) for shade in sixty]))

    def test_by_names(self):
        self.assertEqual(each(deed=turned, shades=(ONE, BLACK)), (turned(ONE), BLACK))

    def test_black_may_be_told(self):
        self.assertEqual(each((ONE, WHITE), lambda shade: BLACK), (BLACK, BLACK))

    def test_what_is_no_such_tuple_is_refused_ahead_of_all_else(self):
        asked = []
        for thing in NO_SHADES + [(ONE,) * 61, [ONE], (ONE, None), (None, ONE), (ONE, (ONE,)), ("",)]:
            if thing in ((), (ONE,)):
                continue
            with self.subTest(repr(thing)):
                self.assertIsNone(caught(NoShade, each, thing, asked.append).light)
                self.assertIsNone(caught(NoShade, each, thing, None).light)
        self.assertEqual(asked, [])

    def test_a_deed_that_tells_something_else_is_refused(self):
        for thing in NO_SHADES:
            with self.subTest(repr(thing)):
                self.assertIsNone(caught(NoShade, each, (ONE,), lambda shade: thing).light)
                self.assertIsNone(caught(NoShade, each, (ONE, BLACK), lambda shade: shade or thing).light)


class AlongWithMixing(unittest.TestCase):
    def test_small_deeds_go_along_with_mixing(self):
        deeds = [
            lambda shade: lighter(shade, (1, 3)), lambda shade: darker(shade, (2, 5)),
            lambda shade: duller(shade, (3, 7)), opposite, turned, lambda shade: turned(shade, -1),
            lambda shade: done(shade, (("lighter",), ("opposite",), ("turned",), ("duller", (1, 9)))),
        ]
        shades = tuple(SOME_SHADES[3:63])
        weights = tuple(range(60))
        for deed in deeds:
            self.assertEqual(deed(mix(shades, weights)), mix(each(shades, deed), weights))


if __name__ == "__main__":
    unittest.main()
