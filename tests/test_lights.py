import random
import unittest
from fractions import Fraction
from itertools import permutations, product

from lightshares.errors import NoEye, NoLights, NoShade
from lightshares.fractions import is_fraction
from lightshares.lights import can_make, make
from lightshares.mixing import mix
from lightshares.nearness import far
from lightshares.shades import Shade, is_shade, shares_of
from lightshares.walks import between
from things import BLACK, HOLDERS, NO_EYES, NO_SHADES, SOME_SHADES, WHITE, caught, shade_at

GREAT = 10 ** 59 + 7
LITTLE = Fraction(1, GREAT)
EYES = [None, (1, 1, 1), (3, 6, 1), (99, 1, 50), (1, 99, 99)]
EMBER, LEAF, SKY = shade_at(1, 0, 0), shade_at(0, 1, 0), shade_at(0, 0, 1)
ONE = Shade((1, 2), (0, 1), (3, 4))
OTHER = Shade((1, 3), (1, 1), (0, 1))
HALF = Fraction(1, 2)
GREY = shade_at(HALF, HALF, HALF)

NO_TUPLES_OF_LIGHTS = [
    None, True, False, 0, 1, "", "1/2 0 3/4", b"", [], [ONE], [ONE, OTHER], (), {}, {0: ONE}, {ONE.ember: ONE}, ONE,
    BLACK, (ONE,) * 6, (ONE, OTHER) * 3, (ONE,) * 7, (None,) * 6, (ONE,) * 60, object(), len, Shade,
] + HOLDERS

# Of one to five: alike ones, all on a line, all on a plane, and such as lie any way.
SOME_LIGHTS = [
    (BLACK,), (WHITE,), (ONE,), (ONE, ONE), (ONE,) * 5, (BLACK, WHITE), (WHITE, BLACK, WHITE), (ONE, OTHER),
    (BLACK, GREY, WHITE), (GREY, WHITE, BLACK, GREY, shade_at(*[Fraction(1, 3)] * 3)),
    (EMBER, LEAF, SKY), (EMBER, LEAF, SKY, shade_at(*[Fraction(1, 3)] * 3)), (EMBER, EMBER, LEAF, SKY, SKY),
    (BLACK, EMBER, LEAF, shade_at(1, 1, 0)), (BLACK, EMBER, LEAF, shade_at(1, 1, 0), shade_at(HALF, HALF, 0)),
    (BLACK, EMBER, LEAF, SKY), (BLACK, EMBER, LEAF, SKY, WHITE), (BLACK, EMBER, LEAF, SKY, shade_at(HALF, HALF, 0)),
    (EMBER, LEAF, SKY, BLACK, shade_at(Fraction(1, 5), Fraction(1, 5), Fraction(1, 5))),
    (ONE, OTHER, GREY, SOME_SHADES[31], SOME_SHADES[93]), (SOME_SHADES[7], SOME_SHADES[62], SOME_SHADES[118]),
    (shade_at(0, 0, HALF), shade_at(1, 0, HALF), shade_at(0, 1, HALF), shade_at(1, 1, HALF)),
]


def parts(shade):
    return [Fraction(*share) for share in shares_of(shade)]


def weigh(weights, shade):
    return sum(Fraction(*weight) * share for weight, share in zip(weights, parts(shade)))


def random_shade(source, figures):
    rows = [source.randrange(10 ** figures, 10 ** (figures + 1)) for light in range(3)]
    return shade_at(*[Fraction(source.randrange(bottom + 1), bottom) for bottom in rows])


def coarse_shade(source):
    return shade_at(*[Fraction(source.randrange(4), 3) for light in range(3)])


class Held(unittest.TestCase):
    """What is told is held against the words of the document."""

    def held(self, lights, shade, eye):
        told = make(lights, shade, eye)
        self.assertIs(type(told), tuple)
        shares, near, line = told
        self.held_shares(lights, shares, near)
        self.held_near(lights, shade, near, eye or (1, 1, 1))
        self.assertEqual(line is None, near == shade)
        if line is not None:
            self.held_line(lights, shade, line)
        self.assertIs(can_make(lights, shade), line is None)
        return told

    def held_shares(self, lights, shares, near):
        self.assertIs(type(shares), tuple)
        self.assertEqual(len(shares), len(lights))
        self.assertTrue(all([is_fraction(share) and share[0] >= 0 for share in shares]))
        self.assertLessEqual(len([share for share in shares if share[0] > 0]), 4)
        shares = [Fraction(*share) for share in shares]
        self.assertEqual(sum(shares), 1)
        self.assertTrue(is_shade(near))
        rows = [parts(light) for light in lights]
        made = [sum(share * row[light] for share, row in zip(shares, rows)) for light in range(3)]
        self.assertEqual(made, parts(near))

    def held_near(self, lights, shade, near, eye):
        goal, spot = parts(shade), parts(near)
        for light in lights:
            row = zip(eye, goal, spot, parts(light))
            self.assertLessEqual(sum(many * (one - two) * (three - two) for many, one, two, three in row), 0)

    def held_line(self, lights, shade, line):
        self.assertIs(type(line), tuple)
        weights, number = line
        self.assertIs(type(weights), tuple)
        self.assertEqual(len(weights), 3)
        self.assertTrue(all([is_fraction(one) for one in weights + (number,)]))
        for light in lights:
            self.assertLessEqual(weigh(weights, light), Fraction(*number))
        self.assertGreater(weigh(weights, shade), Fraction(*number))


class Make(Held):
    def test_written_out(self):
        self.assertEqual(make((ONE,), ONE), (((1, 1),), ONE, None))
        self.assertEqual(make((BLACK, WHITE), GREY), (((1, 2), (1, 2)), GREY, None))
        shares, near, line = make((BLACK, WHITE), EMBER)
        self.assertEqual((shares, str(near)), (((2, 3), (1, 3)), "1/3 1/3 1/3"))
        shares, near, line = make(eye=(4, 1, 1), shade=EMBER, lights=(BLACK, WHITE))
        self.assertEqual((shares, str(near)), (((1, 3), (2, 3)), "2/3 2/3 2/3"))
        shares, near, line = make((EMBER, LEAF, SKY), WHITE)
        self.assertEqual((shares, str(near)), (((1, 3),) * 3, "1/3 1/3 1/3"))
        shares, near, line = make((EMBER, LEAF), SKY)
        self.assertEqual((shares, str(near)), (((1, 2), (1, 2)), "1/2 1/2 0"))
        shares, near, line = make((BLACK, EMBER, LEAF, SKY), shade_at(Fraction(1, 2), Fraction(1, 3), Fraction(1, 7)))
        self.assertEqual((shares, line), (((1, 42), (1, 2), (1, 3), (1, 7)), None))

    def test_some_lights_and_shades_by_several_eyes(self):
        for lights in SOME_LIGHTS:
            for place, shade in enumerate(SOME_SHADES[::4] + [ONE, OTHER, GREY, BLACK, WHITE]):
                self.held(lights, shade, EYES[place % len(EYES)])

    def test_one_of_the_lights(self):
        for lights in SOME_LIGHTS:
            for shade in lights:
                for eye in EYES:
                    shares, near, line = self.held(lights, shade, eye)
                    self.assertEqual((near, line), (shade, None))

    def test_what_the_lights_make(self):
        source = random.Random(19)
        for lights in SOME_LIGHTS:
            for trial in range(6):
                weights = [source.randrange(1000) for light in lights[1:]] + [source.randrange(1, 1000)]
                shade = mix(lights, tuple(weights))
                for eye in EYES[::2]:
                    shares, near, line = self.held(lights, shade, eye)
                    self.assertEqual((near, line), (shade, None))

    def test_just_within_and_just_beyond(self):
        cube = (BLACK, EMBER, LEAF, SKY)
        third = Fraction(1, 3)
        for lean, made in ((0, True), (LITTLE, False), (-LITTLE, True)):
            shade = shade_at(third + lean, third, third)
            told = self.held(cube, shade, None)
            self.assertIs(told[2] is None, made)
            told = self.held((EMBER, LEAF, SKY), shade, (3, 6, 1))
            self.assertIs(told[2] is None, lean == 0)
            told = self.held((BLACK, WHITE), shade, (3, 6, 1))
            self.assertIs(told[2] is None, lean == 0)

    def test_any_lights_at_random(self):
        source = random.Random(1900)
        for many in range(1, 6):
            for trial in range(60):
                for draw in (coarse_shade, lambda drawn: random_shade(drawn, 2)):
                    lights = tuple([draw(source) for light in range(many)])
                    eye = tuple([source.randrange(1, 100) for light in range(3)])
                    self.held(lights, draw(source), eye if trial % 3 else None)

    def test_no_other_shares_make_one_less_far(self):
        source = random.Random(7)
        for lights in SOME_LIGHTS[::2]:
            for shade in SOME_SHADES[::31]:
                for eye in EYES[1:4]:
                    least = Fraction(*far(make(lights, shade, eye)[1], shade, eye))
                    for trial in range(20):
                        weights = tuple([source.randrange(1, 9) for light in lights])
                        self.assertLessEqual(least, Fraction(*far(mix(lights, weights), shade, eye)))

    def test_shares_of_thirty_and_sixty_figures(self):
        source = random.Random(30)
        for figures, trials in ((30, 4), (59, 1)):
            for many in range(1, 6):
                for trial in range(trials):
                    lights = tuple([random_shade(source, figures) for light in range(many)])
                    self.held(lights, random_shade(source, figures), (98, 3, 17))
                    weights = tuple([source.randrange(1, 10 ** 6) for light in lights])
                    shares, near, line = self.held(lights, mix(lights, weights), None)
                    self.assertIsNone(line)

    def test_what_was_told_may_be_handed_in(self):
        source = random.Random(4)
        lights = tuple([random_shade(source, 8) for light in range(4)])
        shade = random_shade(source, 8)
        near = make(lights, shade, (3, 6, 1))[1]
        for eye in (None, (3, 6, 1)):
            self.assertEqual(self.held(lights, near, eye)[1:], (near, None))
            self.held(lights + (near,), shade, eye)
            self.held((near, lights[0]), shade, eye)

    def test_in_another_turn_the_same(self):
        for lights in SOME_LIGHTS:
            for shade in (ONE, SOME_SHADES[88]):
                near = make(lights, shade, (3, 6, 1))[1]
                for turn in list(permutations(lights))[::7]:
                    self.assertEqual(self.held(turn, shade, (3, 6, 1))[1], near)

    def test_more_of_the_same_lights_make_the_same(self):
        for lights in SOME_LIGHTS:
            for shade in SOME_SHADES[::40]:
                near = make(lights, shade)[1]
                for light in lights[:5 - len(lights)]:
                    self.assertEqual(self.held(lights + (light,), shade, None)[1], near)

    def test_the_eye_decides_what_is_near(self):
        self.assertEqual(str(make((EMBER, LEAF), WHITE, (1, 1, 1))[1]), "1/2 1/2 0")
        self.assertEqual(str(make((EMBER, LEAF), WHITE, (1, 3, 1))[1]), "1/4 3/4 0")
        self.assertEqual(str(make((EMBER, LEAF), WHITE, (99, 1, 1))[1]), "99/100 1/100 0")

    def test_the_eye_left_out_and_none(self):
        for lights in SOME_LIGHTS:
            for shade in SOME_SHADES[::50]:
                told = make(lights, shade)
                self.assertEqual(told, make(lights, shade, None))
                self.assertEqual(told, make(lights, shade, (1, 1, 1)))

    def test_the_same_each_time_and_nothing_changed(self):
        for lights in SOME_LIGHTS:
            ahead = str([str(light) for light in lights])
            told = make(lights, ONE, (3, 6, 1))
            make(lights[::-1], OTHER)
            self.assertEqual(make(lights, ONE, (3, 6, 1)), told)
            self.assertEqual(str([str(light) for light in lights]), ahead)


class CanMake(unittest.TestCase):
    def test_written_out(self):
        self.assertIs(can_make((BLACK, WHITE), GREY), True)
        self.assertIs(can_make((BLACK, WHITE), EMBER), False)
        self.assertIs(can_make((BLACK, EMBER, LEAF, SKY), ONE), False)
        self.assertIs(can_make(shade=BLACK, lights=(BLACK,)), True)
        self.assertIs(can_make(shade=BLACK, lights=(WHITE,)), False)

    def test_a_way_and_beyond_it(self):
        for one in SOME_SHADES[::13]:
            for other in SOME_SHADES[::17]:
                for part in ((0, 1), (1, 3), (1, 2), (1, 1)):
                    spot = between(one, other, part)
                    self.assertIs(can_make((one, other), spot), True)
                    if one != other and part == (1, 2):
                        self.assertIs(can_make((one, spot), other), False)

    def test_a_corner_that_is_left_out(self):
        corners = [shade_at(*shares) for shares in product((0, 1), repeat=3)]
        for left_out in range(3, 8):
            self.assertIs(can_make(tuple(corners[left_out - 3:left_out]), corners[left_out]), False)


class Refused(unittest.TestCase):
    def refusals(self, error, lights, shade=ONE, eye=None):
        yield caught(error, make, lights, shade, eye)
        yield caught(error, make, eye=eye, shade=shade, lights=lights)
        if error is not NoEye:
            yield caught(error, can_make, lights, shade)
            yield caught(error, can_make, shade=shade, lights=lights)

    def test_what_is_no_tuple_of_one_to_five(self):
        for thing in NO_TUPLES_OF_LIGHTS:
            for shade, eye in ((ONE, None), (None, 0), ("no", (0, 0, 0))):
                with self.subTest(repr((thing, shade, eye))):
                    for refusal in self.refusals(NoLights, thing, shade, eye):
                        self.assertIsNone(refusal.place)

    def test_the_first_light_that_is_none(self):
        for thing in NO_SHADES:
            for many in range(1, 6):
                for place in range(many):
                    lights = (ONE,) * place + (thing,) + (OTHER,) * (many - place - 1)
                    for refusal in self.refusals(NoLights, lights, None, 0):
                        self.assertEqual(refusal.place, place)
                    for refusal in self.refusals(NoLights, lights[:place + 1] + (None,) * (many - place - 1)):
                        self.assertEqual(refusal.place, place)

    def test_what_is_no_shade_ahead_of_the_eye(self):
        for thing in NO_SHADES:
            with self.subTest(repr(thing)):
                for lights in ((ONE,), (BLACK, WHITE, ONE, OTHER, GREY)):
                    for eye in (None, 0, (0, 1, 1)):
                        for refusal in self.refusals(NoShade, lights, thing, eye):
                            self.assertIsNone(refusal.light)

    def test_what_is_no_eye(self):
        for thing in NO_EYES:
            with self.subTest(repr(thing)):
                for refusal in self.refusals(NoEye, (ONE, OTHER), ONE, thing):
                    self.assertIs(refusal.eye, thing)


if __name__ == "__main__":
    unittest.main()
