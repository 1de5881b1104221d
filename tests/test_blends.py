import unittest

from lightshares.blends import Blend
from lightshares.errors import EmptyMix, NoBlend, NoShade, NoWeight
from lightshares.mixing import mix
from lightshares.shades import Shade
from things import BLACK, NO_SHADES, SOME_SHADES, WHITE, caught

ONE = Shade((1, 2), (0, 1), (3, 4))
OTHER = Shade((1, 3), (1, 1), (0, 1))


def blend_of(*rows):
    blend = Blend()
    for shade, weight in rows:
        blend.put(shade, weight)
    return blend


def state(blend):
    return (blend.total(), len(blend), str(blend))


class Empty(unittest.TestCase):
    def test_it_holds_nothing(self):
        self.assertEqual(Blend().total(), 0)
        self.assertEqual(len(Blend()), 0)
        self.assertIs(bool(Blend()), False)
        self.assertEqual(str(Blend()), "nothing")
        self.assertEqual(repr(Blend()), "Blend(nothing)")

    def test_it_has_no_shade(self):
        caught(EmptyMix, Blend().shade)
        caught(EmptyMix, Blend().joined(Blend()).shade)

    def test_it_may_be_filled_after_it_was_refused(self):
        blend = Blend()
        caught(EmptyMix, blend.shade)
        blend.put(ONE)
        self.assertEqual(blend.shade(), ONE)


class Put(unittest.TestCase):
    def test_by_place_and_by_names(self):
        for put in (lambda blend: blend.put(ONE, 3), lambda blend: blend.put(weight=3, shade=ONE)):
            blend = Blend()
            self.assertIsNone(put(blend))
            self.assertEqual((blend.total(), blend.shade(), len(blend)), (3, ONE, 1))

    def test_weight_left_out_is_1(self):
        blend = Blend()
        self.assertIsNone(blend.put(ONE))
        blend.put(shade=OTHER)
        self.assertEqual((blend.total(), blend.shade()), (2, mix((ONE, OTHER))))

    def test_it_is_the_mix(self):
        shades, weights = tuple(SOME_SHADES[7:47]), tuple([place * 77 + 1 for place in range(40)])
        blend = Blend()
        for many, (shade, weight) in enumerate(zip(shades, weights), start=1):
            blend.put(shade, weight)
            self.assertEqual(blend.shade(), mix(shades[:many], weights[:many]))
            self.assertEqual(blend.total(), sum(weights[:many]))
            self.assertEqual(len(blend), many)

    def test_more_than_sixty(self):
        blend = blend_of(*[(BLACK, 1)] * 75, *[(WHITE, 1)] * 25)
        self.assertEqual(state(blend), (100, 100, "100 of 1/4 1/4 1/4"))

    def test_edges_of_weights(self):
        self.assertEqual(blend_of((ONE, 1)).total(), 1)
        self.assertEqual(blend_of((ONE, 1000000)).total(), 1000000)

    def test_black_counts(self):
        blend = blend_of((BLACK, 2))
        self.assertIs(bool(blend), True)
        self.assertEqual((len(blend), str(blend), blend.shade()), (1, "2 of 0 0 0", BLACK))

    def test_a_weight_that_is_none_is_refused_and_changes_nothing(self):
        for thing in (0, 1000001, -1, 10 ** 59, True, False, None, "1", b"1", [], [1], (), (1, 1), {}, ONE, Blend()):
            for blend in (Blend(), blend_of((ONE, 2), (OTHER, 1))):
                with self.subTest(repr(thing)):
                    ahead = state(blend)
                    self.assertIs(caught(NoWeight, blend.put, OTHER, thing).weight, thing)
                    self.assertIs(caught(NoWeight, blend.put, weight=thing, shade=OTHER).weight, thing)
                    self.assertEqual(state(blend), ahead)

    def test_what_is_no_shade_is_refused_ahead_of_the_weight(self):
        blend = blend_of((ONE, 2), (OTHER, 1))
        ahead = state(blend)
        for thing in NO_SHADES + [Blend(), blend]:
            with self.subTest(repr(thing)):
                self.assertIsNone(caught(NoShade, blend.put, thing).light)
                self.assertIsNone(caught(NoShade, blend.put, thing, 1).light)
                self.assertIsNone(caught(NoShade, blend.put, thing, 0).light)
                self.assertIsNone(caught(NoShade, blend.put, weight=None, shade=thing).light)
        self.assertEqual(state(blend), ahead)

    def test_each_blend_holds_its_own(self):
        one, other = Blend(), Blend()
        one.put(ONE)
        self.assertEqual(len(other), 0)
        other.put(OTHER, 5)
        self.assertEqual((one.shade(), other.shade()), (ONE, OTHER))

    def test_the_shade_handed_in_stays(self):
        blend_of((ONE, 2), (OTHER, 3))
        self.assertEqual((str(ONE), str(OTHER)), ("1/2 0 3/4", "1/3 1 0"))


class Joined(unittest.TestCase):
    def test_with_another(self):
        one, other = blend_of((ONE, 2), (WHITE, 4)), blend_of((OTHER, 3))
        both = one.joined(other)
        self.assertIsInstance(both, Blend)
        self.assertEqual((both.total(), len(both)), (9, 3))
        self.assertEqual(both.shade(), mix((ONE, WHITE, OTHER), (2, 4, 3)))
        self.assertEqual(one.joined(other=other), both)
        self.assertEqual(other.joined(one), both)

    def test_with_itself(self):
        blend = blend_of((ONE, 2), (OTHER, 1))
        both = blend.joined(blend)
        self.assertEqual((both.total(), len(both), both.shade()), (6, 4, blend.shade()))
        self.assertEqual(state(blend), state(blend_of((ONE, 2), (OTHER, 1))))

    def test_with_an_empty_one(self):
        blend = blend_of((ONE, 2), (OTHER, 1))
        for both in (blend.joined(Blend()), Blend().joined(blend)):
            self.assertEqual(both, blend)
            self.assertEqual(state(both), state(blend))
        self.assertEqual(state(Blend().joined(Blend())), (0, 0, "nothing"))

    def test_all_go_on_apart(self):
        one, other = blend_of((ONE, 2)), blend_of((OTHER, 1))
        both, doubled, alone = one.joined(other), one.joined(one), one.joined(Blend())
        one.put(WHITE, 10)
        other.put(BLACK, 20)
        self.assertEqual(state(both), state(blend_of((ONE, 2), (OTHER, 1))))
        self.assertEqual(state(doubled), state(blend_of((ONE, 2), (ONE, 2))))
        self.assertEqual(state(alone), state(blend_of((ONE, 2))))
        both.put(BLACK, 5)
        alone.put(WHITE)
        self.assertEqual(state(one), state(blend_of((ONE, 2), (WHITE, 10))))
        self.assertEqual(state(other), state(blend_of((OTHER, 1), (BLACK, 20))))

    def test_in_any_brackets(self):
        rows = [(shade, 3 * place + 1) for place, shade in enumerate(SOME_SHADES[20:29])]
        parts = [blend_of(row) for row in rows]
        left = Blend()
        for part in parts:
            left = left.joined(part)
        right = Blend()
        for part in parts[::-1]:
            right = part.joined(right)
        self.assertEqual(left, right)
        self.assertEqual(left, blend_of(*rows))
        self.assertEqual(len(left), len(rows))

    def test_many_times(self):
        blend = blend_of((ONE, 1000000), (OTHER, 999999))
        shade = blend.shade()
        for each_time in range(40):
            blend = blend.joined(blend)
        self.assertEqual((blend.total(), len(blend), blend.shade()), (1999999 * 2 ** 40, 2 ** 41, shade))

    def test_what_is_no_blend_is_refused_and_changes_nothing(self):
        blend = blend_of((ONE, 2))
        for thing in NO_SHADES + [ONE, "nothing", (blend,), [blend], Blend]:
            with self.subTest(repr(thing)):
                caught(NoBlend, blend.joined, thing)
                caught(NoBlend, blend.joined, other=thing)
                caught(NoBlend, Blend().joined, thing)
        self.assertEqual(state(blend), (2, 1, "2 of 1/2 0 3/4"))


class Alike(unittest.TestCase):
    def test_of_the_same_total_and_mix_whatever_was_put_in(self):
        grey = Shade((1, 2), (1, 2), (1, 2))
        one, other = blend_of((BLACK, 2), (WHITE, 2)), blend_of((grey, 4))
        self.assertIs(one == other, True)
        self.assertIs(one != other, False)
        self.assertNotEqual(len(one), len(other))
        self.assertIs(blend_of((ONE, 2), (OTHER, 1)) == blend_of((OTHER, 1), (ONE, 1), (ONE, 1)), True)
        self.assertIs(Blend() == Blend(), True)

    def test_of_another_total_or_mix_they_are_not(self):
        blend = blend_of((ONE, 2), (OTHER, 1))
        for other in (Blend(), blend_of((ONE, 4), (OTHER, 2)), blend_of((ONE, 1), (OTHER, 2)), blend_of((ONE, 3))):
            self.assertIs(blend == other, False)
            self.assertIs(other == blend, False)
            self.assertIs(blend != other, True)
        self.assertIs(blend_of((BLACK, 1)) == Blend(), False)
        self.assertIs(blend_of((BLACK, 1)) == blend_of((BLACK, 2)), False)

    def test_each_light_counts(self):
        for other in (Shade((1, 3), (0, 1), (3, 4)), Shade((1, 2), (1, 5), (3, 4)), Shade((1, 2), (0, 1), (1, 4))):
            self.assertIs(blend_of((ONE, 1)) == blend_of((other, 1)), False)

    def test_things_of_other_kinds_are_not_alike(self):
        for blend in (Blend(), blend_of((ONE, 1))):
            for thing in NO_SHADES + [ONE, BLACK, "nothing", "1 of 1/2 0 3/4", (blend,), [blend]]:
                with self.subTest(repr(thing)):
                    self.assertIs(blend == thing, False)
                    self.assertIs(blend != thing, True)
                    self.assertIs(thing == blend, False)
                    self.assertIs(thing != blend, True)


class Shown(unittest.TestCase):
    def test_str_and_repr(self):
        blend = blend_of((ONE, 2), (OTHER, 1))
        self.assertEqual(str(blend), "3 of 4/9 1/3 1/2")
        self.assertEqual(repr(blend), "Blend(3 of 4/9 1/3 1/2)")
        self.assertEqual(str(blend_of((WHITE, 1000000))), "1000000 of 1 1 1")

    def test_asking_changes_nothing(self):
        blend = blend_of((ONE, 2), (OTHER, 1))
        for each_time in range(2):
            self.assertEqual((blend.total(), str(blend.shade()), len(blend)), (3, "4/9 1/3 1/2", 2))
            self.assertEqual((str(blend), repr(blend)), ("3 of 4/9 1/3 1/2", "Blend(3 of 4/9 1/3 1/2)"))
            self.assertIs(bool(blend), True)


if __name__ == "__main__":
    unittest.main()
