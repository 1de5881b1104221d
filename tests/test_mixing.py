import unittest
from fractions import Fraction

from lightshares.errors import NoShade, NoWeights
from lightshares.mixing import mix
from lightshares.shades import Shade, shares_of
from things import BLACK, NO_SHADES, SOME_SHADES, WHITE, caught

ONE = Shade((1, 2), (0, 1), (3, 4))
OTHER = Shade((1, 3), (1, 1), (0, 1))


def by_hand(shades, weights):
    """The mix, reckoned with Python's own fractions."""
    rows = [[Fraction(*share) for share in shares_of(shade)] for shade in shades]
    mixed = [sum(row[light] * weight for row, weight in zip(rows, weights)) / sum(weights) for light in range(3)]
    return Shade(*[(share.numerator, share.denominator) for share in mixed])


class Mixed(unittest.TestCase):
    def test_written_out(self):
        self.assertEqual(str(mix((ONE, OTHER))), "5/12 1/2 3/8")
        self.assertEqual(str(mix((ONE, OTHER), (2, 1))), "4/9 1/3 1/2")
        self.assertEqual(str(mix((BLACK, WHITE), (3, 1))), "1/4 1/4 1/4")

    def test_one_is_its_own_mix(self):
        for shade in SOME_SHADES:
            self.assertEqual(mix((shade,)), shade)
            self.assertEqual(mix((shade,), (1000000,)), shade)

    def test_weights_left_out_or_none_are_all_1(self):
        for many in (1, 2, 3, 59, 60):
            shades = tuple(SOME_SHADES[5:5 + many])
            told = by_hand(shades, [1] * many)
            self.assertEqual(mix(shades), told)
            self.assertEqual(mix(shades, None), told)
            self.assertEqual(mix(shades, (1,) * many), told)

    def test_by_names(self):
        self.assertEqual(mix(weights=(2, 1), shades=(ONE, OTHER)), mix((ONE, OTHER), (2, 1)))
        self.assertEqual(mix(shades=(ONE, OTHER)), mix((ONE, OTHER), (1, 1)))

    def test_any_weights(self):
        for many in range(1, 61):
            shades = tuple(SOME_SHADES[-many:])
            weights = tuple([(place * place * 7919 + 1) % 1000001 for place in range(many)])
            self.assertEqual(mix(shades, weights), by_hand(shades, weights))

    def test_edges_of_weights(self):
        self.assertEqual(mix((ONE, OTHER), (0, 1)), OTHER)
        self.assertEqual(mix((ONE, OTHER), (1000000, 0)), ONE)
        self.assertEqual(mix((ONE, OTHER), (1000000, 1000000)), mix((ONE, OTHER)))
        self.assertEqual(mix((ONE, OTHER), (1000000, 1)), by_hand((ONE, OTHER), (1000000, 1)))
        self.assertEqual(mix((ONE,) * 60, (1000000,) * 60), ONE)
        self.assertEqual(mix((ONE,) * 59 + (OTHER,), (0,) * 59 + (1,)), OTHER)

    def test_many_figures(self):
        shades = tuple([Shade((1, 10 ** 59 + k), (k, 10 ** 59 + 1 + k * k), (1, 1)) for k in range(1, 61)
                        if Fraction(k, 10 ** 59 + 1 + k * k).numerator == k])
        weights = tuple(range(1, len(shades) + 1))
        self.assertEqual(mix(shades, weights), by_hand(shades, weights))

    def test_what_was_handed_in_stays(self):
        shades, weights = (ONE, OTHER), (2, 1)
        mix(shades, weights)
        self.assertEqual((str(shades[0]), str(shades[1]), weights), ("1/2 0 3/4", "1/3 1 0", (2, 1)))


class IsOne(unittest.TestCase):
    SHADES = tuple(SOME_SHADES[10:22])
    WEIGHTS = (5, 0, 7, 1, 1, 900, 12, 3, 3, 0, 40, 2)

    def test_in_another_turn(self):
        told = mix(self.SHADES, self.WEIGHTS)
        self.assertEqual(mix(self.SHADES[::-1], self.WEIGHTS[::-1]), told)
        for cut in range(12):
            shades = self.SHADES[cut:] + self.SHADES[:cut]
            self.assertEqual(mix(shades, self.WEIGHTS[cut:] + self.WEIGHTS[:cut]), told)

    def test_in_groups(self):
        told = mix(self.SHADES, self.WEIGHTS)
        for cut in range(1, 12):
            first = mix(self.SHADES[:cut], self.WEIGHTS[:cut])
            second = mix(self.SHADES[cut:], self.WEIGHTS[cut:])
            weights = (sum(self.WEIGHTS[:cut]), sum(self.WEIGHTS[cut:]))
            self.assertEqual(mix((first, second), weights), told)

    def test_by_so_many_times_the_weights(self):
        told = mix(self.SHADES, self.WEIGHTS)
        for times in (1, 2, 7, 1000):
            self.assertEqual(mix(self.SHADES, tuple([weight * times for weight in self.WEIGHTS])), told)


class Refused(unittest.TestCase):
    def test_what_is_no_tuple_of_shades(self):
        things = [thing for thing in NO_SHADES if thing != (ONE,)]
        for thing in things + [(), (ONE,) * 61, [ONE], (ONE, None), (None,), (ONE, (ONE,)), ONE, ("1 1 1",)]:
            with self.subTest(repr(thing)):
                self.assertIsNone(caught(NoShade, mix, thing).light)
                self.assertIsNone(caught(NoShade, mix, thing, (1,)).light)
                self.assertIsNone(caught(NoShade, mix, thing, "no").light)
                self.assertIsNone(caught(NoShade, mix, weights=(0, 0), shades=thing).light)

    def test_what_are_no_weights(self):
        for thing in (True, False, 0, 1, "", "11", b"11", [], [1, 1], {}, {0: 1, 1: 1}, (), (1,), (1, 1, 1), (0, 0),
                      (-1, 2), (2, -1), (1000001, 1), (1, 1000001), (True, 1), (1, False), (True, True), (None, 1),
                      (1, None), ("1", 1), (1, (1, 1)), ((1, 1), (1, 1)), ([1], 1), (ONE, OTHER), ONE):
            with self.subTest(repr(thing)):
                self.assertEqual(caught(NoWeights, mix, (ONE, OTHER), thing).many, 2)

    def test_many_is_how_many_there_must_be(self):
        for many in (1, 2, 7, 60):
            self.assertEqual(caught(NoWeights, mix, (ONE,) * many, (1,) * (many - 1)).many, many)
            self.assertEqual(caught(NoWeights, mix, (ONE,) * many, (1,) * (many + 1)).many, many)
            self.assertEqual(caught(NoWeights, mix, (ONE,) * many, (0,) * many).many, many)
            self.assertEqual(caught(NoWeights, mix, weights=(), shades=(ONE,) * many).many, many)


if __name__ == "__main__":
    unittest.main()
