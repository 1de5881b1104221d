import unittest
from fractions import Fraction
from math import floor

from lightshares.errors import NoGrade, NoShade, NoStep
from lightshares.fractions import is_fraction
from lightshares.prints import could_be, printed, regraded, span_of
from lightshares.shades import Shade
from things import (
    BLACK, NO_GRADES, NO_SHADES, NO_WHOLES, SOME_SHADES, WHITE, as_tuple, caught, no_steps
)

GREAT = 10 ** 59 + 7
GRADES = [1, 2, 3, 4, 5, 7, 10, 16, 99, 254, 255, 256, 999, 1000]
SHADE = Shade((1, 2), (0, 1), (3, 4))


def step_by_hand(share, grade):
    return floor(share * grade + Fraction(1, 2))


def grey(share):
    return Shade(*[as_tuple(share)] * 3)


class Printed(unittest.TestCase):
    def test_written_out(self):
        self.assertEqual(printed(SHADE), (128, 0, 191))
        self.assertEqual(printed(SHADE, 255), (128, 0, 191))
        self.assertEqual(printed(SHADE, 1), (1, 0, 1))
        self.assertEqual(printed(SHADE, 2), (1, 0, 2))
        self.assertEqual(printed(SHADE, 3), (2, 0, 2))
        self.assertEqual(printed(SHADE, 1000), (500, 0, 750))
        self.assertEqual(printed(grade=3, shade=SHADE), (2, 0, 2))
        self.assertEqual(printed(shade=SHADE), (128, 0, 191))

    def test_each_light_has_its_own(self):
        self.assertEqual(printed(Shade((1, 255), (2, 255), (1, 85))), (1, 2, 3))
        self.assertEqual(printed(Shade((254, 255), (13, 255), (77, 255))), (254, 13, 77))

    def test_black_and_white(self):
        for grade in GRADES:
            self.assertEqual(printed(BLACK, grade), (0, 0, 0))
            self.assertEqual(printed(WHITE, grade), (grade, grade, grade))

    def test_just_at_the_end_of_a_step_and_a_little_beside_it(self):
        little = Fraction(1, GREAT)
        for grade in GRADES:
            for step in sorted({0, 1, 2, grade // 3, grade // 2, grade - 2, grade - 1} & set(range(grade))):
                end = Fraction(2 * step + 1, 2 * grade)
                self.assertEqual(printed(grey(end), grade), (step + 1,) * 3)
                self.assertEqual(printed(grey(end - little), grade), (step,) * 3)
                self.assertEqual(printed(grey(end + little), grade), (step + 1,) * 3)

    def test_the_steps_own_shares(self):
        for grade in GRADES:
            for step in range(grade + 1):
                self.assertEqual(printed(grey(Fraction(step, grade)), grade), (step,) * 3)

    def test_any_shade(self):
        for shade in SOME_SHADES:
            for grade in (1, 2, 3, 255, 1000):
                told = printed(shade, grade)
                self.assertIs(type(told), tuple)
                shares = [Fraction(*share) for share in (shade.ember, shade.leaf, shade.sky)]
                self.assertEqual(told, tuple([step_by_hand(share, grade) for share in shares]))
                self.assertTrue(all(type(step) is int for step in told))

    def test_refused(self):
        for thing in NO_SHADES:
            with self.subTest(repr(thing)):
                self.assertIsNone(caught(NoShade, printed, thing).light)
                self.assertIsNone(caught(NoShade, printed, thing, 0).light)
                self.assertIsNone(caught(NoShade, printed, grade=None, shade=thing).light)
        for thing in NO_GRADES:
            with self.subTest(repr(thing)):
                self.assertIs(caught(NoGrade, printed, SHADE, thing).grade, thing)
                self.assertIs(caught(NoGrade, printed, grade=thing, shade=SHADE).grade, thing)


class Span(unittest.TestCase):
    def test_written_out(self):
        self.assertEqual(span_of(0), ((0, 1), (1, 510), False))
        self.assertEqual(span_of(1), ((1, 510), (1, 170), False))
        self.assertEqual(span_of(255), ((509, 510), (1, 1), True))
        self.assertEqual(span_of(0, 1), ((0, 1), (1, 2), False))
        self.assertEqual(span_of(1, 1), ((1, 2), (1, 1), True))
        self.assertEqual(span_of(1, 2), ((1, 4), (3, 4), False))
        self.assertEqual(span_of(grade=1000, step=1000), ((1999, 2000), (1, 1), True))
        self.assertEqual(span_of(step=255), ((509, 510), (1, 1), True))

    def test_one_behind_another_from_0_to_1(self):
        for grade in GRADES:
            spans = [span_of(step, grade) for step in range(grade + 1)]
            self.assertEqual(spans[0][0], (0, 1))
            self.assertEqual(spans[-1][1], (1, 1))
            for place, told in enumerate(spans):
                self.assertIs(type(told), tuple)
                least, most, closed = told
                self.assertTrue(is_fraction(least) and is_fraction(most))
                self.assertLess(Fraction(*least), Fraction(*most))
                self.assertIs(closed, place == grade)
            for one, other in zip(spans, spans[1:]):
                self.assertEqual(one[1], other[0])

    def test_just_these_shares_have_the_step(self):
        little = Fraction(1, GREAT)
        for grade in (1, 2, 3, 10, 255, 1000):
            for step in range(grade + 1):
                least, most, closed = span_of(step, grade)
                least, most = Fraction(*least), Fraction(*most)
                within = [least, (least + most) / 2, most - little] + ([most] if closed else [])
                outside = ([least - little] if least > 0 else []) + ([] if closed else [most])
                for share in within:
                    self.assertEqual(printed(grey(share), grade)[0], step)
                for share in outside:
                    self.assertNotEqual(printed(grey(share), grade)[0], step)

    def test_refused(self):
        for grade in (1, 2, 255, 1000):
            for thing in no_steps(grade):
                with self.subTest(repr(thing)):
                    self.assertIsNone(caught(NoStep, span_of, thing, grade).light)
                    self.assertIsNone(caught(NoStep, span_of, grade=grade, step=thing).light)
        self.assertIsNone(caught(NoStep, span_of, 256).light)
        self.assertIsNone(caught(NoStep, span_of, (0, 0, 0)).light)

    def test_the_grade_ahead_of_the_step(self):
        for thing in NO_GRADES:
            for step in (0, 1, -1, None, "no", 10 ** 59):
                with self.subTest(repr((thing, step))):
                    self.assertIs(caught(NoGrade, span_of, step, thing).grade, thing)


class CouldBe(unittest.TestCase):
    def test_written_out(self):
        self.assertIs(could_be(SHADE, (128, 0, 191)), True)
        self.assertIs(could_be(SHADE, (127, 0, 191)), False)
        self.assertIs(could_be(SHADE, (128, 1, 191)), False)
        self.assertIs(could_be(SHADE, (128, 0, 192)), False)
        self.assertIs(could_be(SHADE, (2, 0, 2), 3), True)
        self.assertIs(could_be(SHADE, (0, 2, 2), 3), False)
        self.assertIs(could_be(grade=3, steps=(2, 0, 2), shade=SHADE), True)
        self.assertIs(could_be(steps=(128, 0, 191), shade=SHADE), True)

    def test_just_where_the_print_is_these_steps(self):
        for grade in (1, 2, 3):
            rows = [(one, two, three) for one in range(grade + 1) for two in range(grade + 1)
                    for three in range(grade + 1)]
            for shade in SOME_SHADES:
                held = [steps for steps in rows if could_be(shade, steps, grade)]
                self.assertEqual(held, [printed(shade, grade)])

    def test_just_at_the_end_of_a_step(self):
        for grade in (1, 2, 3, 10, 255, 1000):
            for step in range(grade):
                end = Fraction(2 * step + 1, 2 * grade)
                for share, told in ((end, step + 1), (end - Fraction(1, GREAT), step)):
                    for tried in (step, step + 1):
                        self.assertIs(could_be(grey(share), (tried,) * 3, grade), tried == told)

    def test_what_is_no_shade_ahead_of_the_grade_ahead_of_the_steps(self):
        for thing in NO_SHADES:
            with self.subTest(repr(thing)):
                self.assertIsNone(caught(NoShade, could_be, thing, (0, 0, 0)).light)
                self.assertIsNone(caught(NoShade, could_be, thing, None, None).light)
                self.assertIsNone(caught(NoShade, could_be, grade=0, steps=(9,), shade=thing).light)
        for thing in NO_GRADES:
            for steps in ((0, 0, 0), (-1, 0, 0), None, (0, 0)):
                with self.subTest(repr((thing, steps))):
                    self.assertIs(caught(NoGrade, could_be, SHADE, steps, thing).grade, thing)

    def test_what_is_no_tuple_of_three(self):
        for thing in NO_WHOLES + [0, 1, (0, 0), (0, 0, 0, 0), [0, 0, 0], "000", b"000", {0: 0, 1: 0, 2: 0}, (-1, -1)]:
            with self.subTest(repr(thing)):
                self.assertIsNone(caught(NoStep, could_be, SHADE, thing).light)
                self.assertIsNone(caught(NoStep, could_be, SHADE, thing, 3).light)

    def test_the_first_step_that_is_none(self):
        for grade in (1, 3, 255, 1000):
            for thing in no_steps(grade):
                with self.subTest(repr(thing)):
                    self.assertEqual(caught(NoStep, could_be, SHADE, (thing, 0, 0), grade).light, 0)
                    self.assertEqual(caught(NoStep, could_be, SHADE, (0, thing, 0), grade).light, 1)
                    self.assertEqual(caught(NoStep, could_be, SHADE, (0, grade, thing), grade).light, 2)
                    self.assertEqual(caught(NoStep, could_be, SHADE, (grade, thing, -1), grade).light, 1)
                    self.assertEqual(caught(NoStep, could_be, SHADE, (thing, thing, thing), grade).light, 0)
        self.assertEqual(caught(NoStep, could_be, SHADE, (255, 0, 256)).light, 2)


def meet(one, other):
    """Whether two stretches of shares have a share together."""
    (least, most, closed), (low, high, shut) = one, other
    first = max(Fraction(*least), Fraction(*low))
    last = min(Fraction(*most), Fraction(*high))
    both_closed = all(shut_here for end, shut_here in ((most, closed), (high, shut)) if Fraction(*end) == last)
    return first < last or (first == last and both_closed)


class Regraded(unittest.TestCase):
    def test_written_out(self):
        self.assertEqual(regraded(1, 2, 3), (1, 2))
        self.assertEqual(regraded(0, 1, 255), (0, 127))
        self.assertEqual(regraded(1, 1, 255), (128, 255))
        self.assertEqual(regraded(0, 255, 1), (0, 0))
        self.assertEqual(regraded(255, 255, 1), (1, 1))
        self.assertEqual(regraded(127, 255, 1), (0, 0))
        self.assertEqual(regraded(128, 255, 1), (1, 1))
        self.assertEqual(regraded(1, 2, 1), (0, 1))
        self.assertEqual(regraded(other=3, grade=2, step=1), (1, 2))

    def test_the_same_grade(self):
        for grade in GRADES:
            for step in range(grade + 1):
                self.assertEqual(regraded(step, grade, grade), (step, step))

    def test_held_against_the_stretches_of_all_steps(self):
        small = list(range(1, 13))
        spans = {grade: [span_of(step, grade) for step in range(grade + 1)] for grade in small}
        for grade in small:
            for other in small:
                for step in range(grade + 1):
                    told = regraded(step, grade, other)
                    self.assertIs(type(told), tuple)
                    can_be = [place for place, span in enumerate(spans[other]) if meet(spans[grade][step], span)]
                    self.assertEqual(can_be, list(range(told[0], told[1] + 1)), (step, grade, other))

    def test_held_against_the_stretches_of_great_grades(self):
        for grade, other in ((255, 1000), (1000, 255), (255, 3), (3, 255), (100, 999), (64, 256), (1, 1000)):
            spans = [span_of(step, other) for step in range(other + 1)]
            for step in sorted({0, 1, grade // 2, grade - 1, grade}):
                least, greatest = regraded(step, grade, other)
                held = span_of(step, grade)
                can_be = [place for place, span in enumerate(spans) if meet(held, span)]
                self.assertEqual(can_be, list(range(least, greatest + 1)), (step, grade, other))

    def test_both_grades_ahead_of_the_step(self):
        for thing in NO_GRADES:
            for step in (0, 1, -1, None, "no"):
                with self.subTest(repr((thing, step))):
                    self.assertIs(caught(NoGrade, regraded, step, thing, 255).grade, thing)
                    self.assertIs(caught(NoGrade, regraded, step, 255, thing).grade, thing)
                    self.assertIs(caught(NoGrade, regraded, step, thing, -7).grade, thing)
                    self.assertIs(caught(NoGrade, regraded, other=thing, grade=1, step=step).grade, thing)

    def test_a_step_that_is_none(self):
        for grade, other in ((1, 1000), (255, 1), (255, 1000), (1000, 255)):
            for thing in no_steps(grade):
                with self.subTest(repr(thing)):
                    self.assertIsNone(caught(NoStep, regraded, thing, grade, other).light)


if __name__ == "__main__":
    unittest.main()
