import unittest
from fractions import Fraction
from itertools import product

from lightshares.books import Book
from lightshares.errors import NoGrade, NoName, NoStep
from lightshares.prints import could_be, printed, span_of
from lightshares.shades import Shade
from lightshares.sure import sure_names
from things import (
    BLACK, NO_BOOKS, NO_GRADES, NO_WHOLES, SOME_SHADES, WHITE, caught, filled, no_steps, shade_at
)

GREAT = 10 ** 59 + 7
LITTLE = Fraction(1, GREAT)
ONE = Shade((1, 2), (0, 1), (3, 4))
GREYS = filled([("white", WHITE), ("black", BLACK)])


def some_books():
    for eye in (None, (3, 6, 1), (99, 1, 50)):
        for step in (7, 37, 54):
            for many in (1, 2, 9, 24):
                rows = [(chr(97 + (place * 7) % 26) * (1 + place % 5), SOME_SHADES[(place * step) % 125])
                        for place in range(many)]
                yield filled(rows, eye)


def in_all(book, shades):
    """The names that are among the nearest to each of these Shades, rising."""
    told = [set(book.called(shade)) for shade in shades]
    return tuple(sorted(set.intersection(*told)))


def ends_of(step, grade):
    return [Fraction(*end) for end in span_of(step, grade)[:2]]


def corners_of(steps, grade):
    return [shade_at(*shares) for shares in product(*[ends_of(step, grade) for step in steps])]


def shades_with(steps, grade):
    """Shades that have these steps: at the ends, a little within them, and between."""
    rows = []
    for step in steps:
        low, high = ends_of(step, grade)
        shares = [low, (2 * low + high) / 3, (low + high) / 2, high - LITTLE]
        rows.append(shares + [high] if step == grade else shares)
    return [shade_at(*shares) for shares in product(*rows)]


class SureNames(unittest.TestCase):
    def test_written_out(self):
        self.assertEqual(sure_names(GREYS, (0, 0, 0), 1), ("black",))
        self.assertEqual(sure_names(GREYS, (1, 1, 1), 1), ("white",))
        self.assertEqual(sure_names(GREYS, (1, 0, 0), 1), ())
        self.assertEqual(sure_names(GREYS, (127, 127, 127)), ("black",))
        self.assertEqual(sure_names(GREYS, (128, 128, 128)), ("white",))
        self.assertEqual(sure_names(GREYS, (127, 127, 128)), ())
        self.assertEqual(sure_names(GREYS, (127, 126, 128)), ("black",))
        self.assertEqual(sure_names(grade=3, steps=(1, 1, 1), book=GREYS), ("black",))
        self.assertEqual(sure_names(steps=(127, 127, 127), book=GREYS), ("black",))

    def test_the_grade_left_out_is_255(self):
        for steps in ((0, 0, 0), (255, 255, 255), (127, 128, 127), (200, 3, 99)):
            for book in some_books():
                self.assertEqual(sure_names(book, steps), sure_names(book, steps, 255))

    def test_an_empty_book(self):
        for eye in (None, (3, 6, 1)):
            self.assertEqual(sure_names(Book(eye), (0, 0, 0)), ())
            self.assertEqual(sure_names(Book(eye), (1, 0, 1), 1), ())

    def test_one_name_is_always_sure(self):
        book = filled([("one", ONE)])
        for steps in product((0, 500, 1000), repeat=3):
            self.assertEqual(sure_names(book, steps, 1000), ("one",))

    def test_rising_and_with_all_ties(self):
        book = filled([("b", BLACK), ("a", BLACK), ("c", WHITE), ("ab", BLACK)])
        self.assertEqual(sure_names(book, (0, 0, 0)), ("a", "ab", "b"))
        self.assertEqual(sure_names(book, (255, 255, 255)), ("c",))

    def test_an_end_that_is_out_of_the_step_still_counts(self):
        # Black is the nearest up to just 1/2, where a step of 1 ends and doesn't hold its end.
        book = filled([("black", BLACK), ("ember", Shade((1, 1), (0, 1), (0, 1)))])
        self.assertEqual(sure_names(book, (0, 0, 0), 1), ("black",))
        self.assertEqual(sure_names(book, (1, 0, 0), 1), ("ember",))
        # A little less, and it is no longer so for all Shades with that step.
        nearer = filled([("black", BLACK), ("ember", shade_at(1 - LITTLE, 0, 0))])
        self.assertEqual(sure_names(nearer, (0, 0, 0), 1), ())
        self.assertEqual(sure_names(nearer, (1, 0, 0), 1), ("ember",))

    def test_nearest_at_all_corners_but_one(self):
        middle = shade_at(Fraction(1, 2), Fraction(1, 2), Fraction(1, 2))
        for signs in product((0, 1), repeat=3):
            # Just beyond one corner stands another name that is nearer there alone, or just as near.
            beyond = shade_at(*[Fraction(19, 20) if sign else Fraction(1, 20) for sign in signs])
            book = filled([("middle", middle), ("beyond", beyond)])
            told = [book.called(corner) for corner in corners_of((1, 1, 1), 2)]
            self.assertEqual(sorted(told), [("beyond",)] + [("middle",)] * 7)
            self.assertEqual(sure_names(book, (1, 1, 1), 2), ())
            tied = filled([("middle", middle), ("beyond", shade_at(*signs))])
            self.assertEqual(sure_names(tied, (1, 1, 1), 2), ("middle",))

    def held(self, book, steps, grade):
        told = sure_names(book, steps, grade)
        self.assertIs(type(told), tuple)
        self.assertEqual(told, in_all(book, corners_of(steps, grade)))
        shades = shades_with(steps, grade)
        for shade in shades[::9]:
            self.assertIs(could_be(shade, steps, grade), True)
        self.assertEqual(told, in_all(book, shades), (str(book), steps, grade))

    def test_held_against_called_for_small_grades(self):
        for book in list(some_books())[::5]:
            for grade in (1, 2, 3):
                for steps in list(product(range(grade + 1), repeat=3))[::grade]:
                    self.held(book, steps, grade)

    def test_held_against_called_for_great_grades(self):
        for place, book in enumerate(some_books()):
            for grade in (255, 1000):
                steps = printed(SOME_SHADES[(place * 31) % 125], grade)
                self.held(book, steps, grade)

    def test_the_steps_of_a_name_of_its_own(self):
        # Of 1000 steps a name's own are so narrow that it is sure, where no other stands near.
        for book in some_books():
            for name in book.names()[:3]:
                alike = tuple(sorted([other for other in book.names() if book.shade(other) == book.shade(name)]))
                self.assertEqual(sure_names(book, printed(book.shade(name), 1000), 1000), alike)

    def test_many_figures(self):
        rows = [(chr(97 + place), shade_at(*[Fraction((GREAT // 40) * ((place * 7 + light * 5) % 23 + 1), GREAT + place)
                                             for light in range(3)])) for place in range(24)]
        book = filled(rows, (5, 3, 2))
        for steps in ((1, 1, 0), (3, 2, 1)):
            self.held(book, steps, 3)

    def test_asking_changes_nothing(self):
        ahead = str(GREYS)
        self.assertEqual(sure_names(GREYS, (0, 1, 2), 7), sure_names(GREYS, (0, 1, 2), 7))
        self.assertEqual(str(GREYS), ahead)


class Refused(unittest.TestCase):
    def test_what_is_no_book_ahead_of_all(self):
        for thing in NO_BOOKS:
            with self.subTest(repr(thing)):
                self.assertIsNone(caught(NoName, sure_names, thing, (0, 0, 0)).name)
                self.assertIsNone(caught(NoName, sure_names, thing, None, None).name)
                self.assertIsNone(caught(NoName, sure_names, grade=0, steps=(9,), book=thing).name)

    def test_the_grade_ahead_of_the_steps(self):
        for book in (Book(), GREYS):
            for thing in NO_GRADES:
                for steps in ((0, 0, 0), (-1, 0, 0), None, (0, 0), (True, 0, 0)):
                    with self.subTest(repr((thing, steps))):
                        self.assertIs(caught(NoGrade, sure_names, book, steps, thing).grade, thing)
                        self.assertIs(caught(NoGrade, sure_names, grade=thing, steps=steps, book=book).grade, thing)

    def test_what_is_no_tuple_of_three(self):
        for book in (Book(), GREYS):
            for thing in NO_WHOLES + [0, 1, (0, 0), (0, 0, 0, 0), [0, 0, 0], "000", b"000", {0: 0, 1: 0, 2: 0}]:
                with self.subTest(repr(thing)):
                    self.assertIsNone(caught(NoStep, sure_names, book, thing).light)
                    self.assertIsNone(caught(NoStep, sure_names, book, thing, 3).light)

    def test_the_first_step_that_is_none(self):
        for book in (Book(), GREYS):
            for grade in (1, 3, 255, 1000):
                for thing in no_steps(grade):
                    with self.subTest(repr((thing, grade))):
                        self.assertEqual(caught(NoStep, sure_names, book, (thing, 0, 0), grade).light, 0)
                        self.assertEqual(caught(NoStep, sure_names, book, (0, thing, 0), grade).light, 1)
                        self.assertEqual(caught(NoStep, sure_names, book, (0, grade, thing), grade).light, 2)
                        self.assertEqual(caught(NoStep, sure_names, book, (grade, thing, -1), grade).light, 1)
                        self.assertEqual(caught(NoStep, sure_names, book, (thing, thing, thing), grade).light, 0)
        self.assertEqual(caught(NoStep, sure_names, GREYS, (255, 0, 256)).light, 2)


if __name__ == "__main__":
    unittest.main()
