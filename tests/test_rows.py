import unittest
from fractions import Fraction
from math import isqrt

from lightshares.blends import Blend
from lightshares.errors import NoEye, NoLimit, NoPlace, NoShade
from lightshares.fractions import below, fraction
from lightshares.nearness import far
from lightshares.rows import Row, steps_between
from lightshares.shades import Shade, shares_of
from things import A_ROW, BLACK, HOLDERS, NO_EYES, NO_LIMITS, NO_SHADES, SOME_SHADES, WHITE, caught

GREAT = 10 ** 59 + 7
ONE = Shade((1, 2), (0, 1), (3, 4))
OTHER = Shade((1, 3), (1, 1), (0, 1))
LIMITS = [(1, 1000), (1, 97), (1, 16), (1, 3), (1, 1), (3, 2), (7, 1), (1000, 1), (GREAT, 10 ** 60), (1, 999)]
EYES = [None, (1, 1, 1), (3, 6, 1), (1, 99, 50), (99, 99, 99)]

NO_PLACES = [
    None, True, False, "", "0", b"0", [], [0], (), (0,), (0, 1), {}, {0: 0}, ONE, BLACK, object(), len, Row, -1, -2, -4,
    10 ** 59, -10 ** 59,
] + HOLDERS


def as_tuple(value):
    return (value.numerator, value.denominator)


def steps_by_hand(shade, other, limit, eye):
    """Count up from a root that is surely too small."""
    gap = Fraction(*far(shade, other, eye))
    steps = max(isqrt(int(gap / Fraction(*limit))) - 1, 0)
    while steps * steps * Fraction(*limit) < gap:
        steps += 1
    return steps


def shades_by_hand(shade, other, steps):
    told = []
    for place in range(steps + 1):
        part = Fraction(place, steps) if steps else Fraction(0)
        pairs = zip(shares_of(shade), shares_of(other))
        told.append(Shade(*[as_tuple(Fraction(*one) + part * (Fraction(*two) - Fraction(*one))) for one, two in pairs]))
    return told


class Steps(unittest.TestCase):
    def test_written_out(self):
        self.assertEqual(steps_between(BLACK, WHITE, (3, 1)), 1)
        self.assertEqual(steps_between(BLACK, WHITE, (1, 1)), 2)
        self.assertEqual(steps_between(BLACK, WHITE, (3, 4)), 2)
        self.assertEqual(steps_between(BLACK, WHITE, (1, 3)), 3)
        self.assertEqual(steps_between(BLACK, WHITE, (1, 1000)), 55)
        self.assertEqual(steps_between(BLACK, WHITE, (1000, 1)), 1)
        self.assertEqual(steps_between(BLACK, WHITE, (1, 1000), (99, 99, 99)), 545)
        self.assertEqual(steps_between(eye=(2, 1, 1), limit=(1, 1), other=WHITE, shade=BLACK), 2)
        self.assertEqual(steps_between(limit=(1, 3), other=WHITE, shade=BLACK), 3)

    def test_alike_shades_have_none(self):
        for shade in SOME_SHADES[::5]:
            for limit in LIMITS:
                self.assertEqual(steps_between(shade, Shade(*shares_of(shade)), limit), 0)

    def test_just_at_a_limit_and_a_little_beside_it(self):
        for many in (1, 2, 3, 7, 54):
            limit = Fraction(3, many * many)
            if limit >= Fraction(1, 1000):
                self.assertEqual(steps_between(BLACK, WHITE, as_tuple(limit)), many)
                self.assertEqual(steps_between(BLACK, WHITE, as_tuple(limit + Fraction(1, GREAT))), many)
                self.assertEqual(steps_between(BLACK, WHITE, as_tuple(limit - Fraction(1, GREAT))), many + 1)

    def test_a_little_apart_is_one_step(self):
        near = Shade((1, GREAT), (0, 1), (0, 1))
        self.assertEqual(steps_between(BLACK, near, (1, 1000)), 1)
        self.assertEqual(steps_between(near, BLACK, (1000, 1)), 1)

    def test_any_shades(self):
        for eye in EYES:
            for limit in LIMITS:
                for shade in SOME_SHADES[::17]:
                    for other in SOME_SHADES[::23]:
                        told = steps_between(shade, other, limit, eye)
                        self.assertIs(type(told), int)
                        self.assertEqual(told, steps_by_hand(shade, other, limit, eye))
                        self.assertEqual(told, steps_between(other, shade, limit, eye))

    def test_eye_left_out_and_none(self):
        self.assertEqual(steps_between(ONE, OTHER, (1, 50)), steps_between(ONE, OTHER, (1, 50), (1, 1, 1)))
        self.assertEqual(steps_between(ONE, OTHER, (1, 50), None), steps_between(ONE, OTHER, (1, 50), (1, 1, 1)))
        self.assertNotEqual(steps_between(ONE, OTHER, (1, 50), (9, 9, 9)), steps_between(ONE, OTHER, (1, 50)))


class Refused(unittest.TestCase):
    def test_shades_ahead_of_the_limit(self):
        for asked in (steps_between, Row):
            for thing in NO_SHADES + [Blend()]:
                with self.subTest(repr(thing)):
                    for limit in ((1, 2), None, (0, 1)):
                        for eye in (None, (0, 0, 0)):
                            self.assertIsNone(caught(NoShade, asked, thing, ONE, limit, eye).light)
                            self.assertIsNone(caught(NoShade, asked, ONE, thing, limit, eye).light)
                    self.assertIsNone(caught(NoShade, asked, limit=None, other=thing, shade=ONE).light)
                    self.assertIsNone(caught(NoShade, asked, thing, thing, (1, 2)).light)

    def test_the_limit_ahead_of_the_eye(self):
        for asked in (steps_between, Row):
            for thing in NO_LIMITS:
                with self.subTest(repr(thing)):
                    for eye in (None, (1, 1, 1), (0, 0, 0), "no"):
                        self.assertIs(caught(NoLimit, asked, ONE, OTHER, thing, eye).limit, thing)
                    self.assertIs(caught(NoLimit, asked, limit=thing, other=ONE, shade=ONE).limit, thing)

    def test_the_eye(self):
        for asked in (steps_between, Row):
            for thing in NO_EYES:
                with self.subTest(repr(thing)):
                    self.assertIs(caught(NoEye, asked, ONE, OTHER, (1, 2), thing).eye, thing)
                    self.assertIs(caught(NoEye, asked, eye=thing, limit=(1, 2), other=ONE, shade=ONE).eye, thing)


class Rows(unittest.TestCase):
    def test_written_out(self):
        row = Row(BLACK, WHITE, (1, 3))
        self.assertEqual(str(row), "0 0 0 > 1/3 1/3 1/3 > 2/3 2/3 2/3 > 1 1 1")
        self.assertEqual(repr(row), "Row(0 0 0 > 1/3 1/3 1/3 > 2/3 2/3 2/3 > 1 1 1)")
        self.assertEqual(len(row), 4)
        row = Row(eye=(1, 9, 1), limit=(4, 1), other=OTHER, shade=ONE)
        self.assertEqual(str(row), "1/2 0 3/4 > 5/12 1/2 3/8 > 1/3 1 0")

    def test_one_alone(self):
        row = Row(ONE, Shade((1, 2), (0, 1), (3, 4)), (1, 1000))
        self.assertEqual((len(row), str(row), repr(row)), (1, "1/2 0 3/4", "Row(1/2 0 3/4)"))
        self.assertEqual(row.shades(), [ONE])
        self.assertEqual(row.at(0), ONE)
        self.assertIs(caught(NoPlace, row.at, 1).place, 1)
        self.assertIs(bool(row), True)
        self.assertIs(bool(Row(BLACK, BLACK, (1, 1))), True)

    def test_the_shades_of_any_row(self):
        for eye in EYES:
            for limit in LIMITS[1:]:
                for shade, other in ((ONE, OTHER), (OTHER, ONE), (BLACK, WHITE), (SOME_SHADES[7], SOME_SHADES[93]),
                                     (Shade((1, GREAT), (1, 7), (1, 2)), Shade((2, 5), (1, 7), (GREAT - 1, GREAT)))):
                    row = Row(shade, other, limit, eye)
                    steps = steps_between(shade, other, limit, eye)
                    told = row.shades()
                    self.assertIs(type(told), list)
                    self.assertEqual(told, shades_by_hand(shade, other, steps))
                    self.assertEqual(len(row), steps + 1)
                    self.assertEqual([row.at(place) for place in range(steps + 1)], told)
                    self.assertEqual(str(row), " > ".join([str(one) for one in told]))
                    self.assertEqual(repr(row), f"Row({row})")
                    for one, two in zip(told, told[1:]):
                        self.assertFalse(below(limit, far(one, two, eye)))

    def test_at_by_name(self):
        row = Row(BLACK, WHITE, (1, 3))
        self.assertEqual(row.at(place=2), Shade((2, 3), (2, 3), (2, 3)))

    def test_places_that_are_none(self):
        row = Row(BLACK, WHITE, (1, 3))
        for thing in NO_PLACES + [4, 5]:
            with self.subTest(repr(thing)):
                self.assertIs(caught(NoPlace, row.at, thing).place, thing)
                self.assertIs(caught(NoPlace, row.at, place=thing).place, thing)
        self.assertEqual(str(row), "0 0 0 > 1/3 1/3 1/3 > 2/3 2/3 2/3 > 1 1 1")

    def test_a_list_spoilt_by_the_asker_changes_nothing(self):
        row = Row(BLACK, WHITE, (1, 3))
        ahead = str(row)
        told = row.shades()
        told[0] = ONE
        told.append(OTHER)
        told.reverse()
        self.assertEqual((str(row), len(row), row.at(0), row.at(3)), (ahead, 4, BLACK, WHITE))
        self.assertEqual([str(shade) for shade in row.shades()], ahead.split(" > "))
        row.shades().clear()
        self.assertEqual(len(row.shades()), 4)
        self.assertIsNot(row.shades(), row.shades())

    def test_what_is_handed_in_stays(self):
        limit, eye = (1, 100), (3, 6, 1)
        Row(ONE, OTHER, limit, eye)
        self.assertEqual((str(ONE), str(OTHER), limit, eye), ("1/2 0 3/4", "1/3 1 0", (1, 100), (3, 6, 1)))


class Alike(unittest.TestCase):
    def test_where_all_shades_are(self):
        row = Row(BLACK, WHITE, (1, 3))
        for other in (Row(BLACK, WHITE, (1, 3)), Row(BLACK, WHITE, (2, 5)), Row(BLACK, WHITE, (1, 1), (3, 3, 3)), row):
            self.assertIs(row == other, True)
            self.assertIs(row != other, False)
        self.assertIs(Row(ONE, ONE, (1, 1)) == Row(ONE, ONE, (1, 1000), (2, 3, 4)), True)

    def test_unlike(self):
        row = Row(BLACK, WHITE, (1, 3))
        for other in (Row(WHITE, BLACK, (1, 3)), Row(BLACK, WHITE, (1, 4)), Row(BLACK, WHITE, (3, 1)),
                      Row(BLACK, BLACK, (1, 3)), Row(BLACK, Shade((1, 1), (1, 1), (0, 1)), (1, 3)),
                      Row(BLACK, Shade((1, 1), (1, 1), fraction(GREAT - 1, GREAT)), (1, 3))):
            self.assertIs(row == other, False)
            self.assertIs(other == row, False)
            self.assertIs(row != other, True)

    def test_things_of_other_kinds_are_not_alike(self):
        for row in (Row(BLACK, WHITE, (1, 3)), Row(ONE, ONE, (1, 1))):
            for thing in [thing for thing in NO_SHADES + HOLDERS if thing is not A_ROW] + [
                    ONE, row.shades(), tuple(row.shades()), str(row), (row,), [row]]:
                with self.subTest(repr(thing)):
                    self.assertIs(row == thing, False)
                    self.assertIs(row != thing, True)
                    self.assertIs(thing == row, False)
                    self.assertIs(thing != row, True)


if __name__ == "__main__":
    unittest.main()
