import random
import unittest
from fractions import Fraction

from lightshares.books import Book
from lightshares.checker import holds
from lightshares.errors import NoEye, NoGrade, NoLights, NoLimit, NoName, NoShade, NoStep
from lightshares.lights import can_make, make
from lightshares.mixing import mix
from lightshares.papers import paper_called, paper_lights, paper_line, paper_steps, paper_sure, paper_walk
from lightshares.prints import printed
from lightshares.rows import steps_between
from lightshares.shades import Shade, shares_of
from lightshares.sure import sure_names
from lightshares.walks import walk
from plain import is_true
from things import (
    BLACK, HOLDERS, NO_BOOKS, NO_EYES, NO_GRADES, NO_LIMITS, NO_SHADES, NO_WHOLES, SOME_SHADES, WHITE, caught, filled,
    no_steps, shade_at
)

GREAT = 10 ** 59 + 7
EVEN = (1, 1, 1)
ONE = Shade((1, 2), (0, 1), (3, 4))
OTHER = Shade((1, 3), (1, 1), (0, 1))
ONE_T, OTHER_T = ((1, 2), (0, 1), (3, 4)), ((1, 3), (1, 1), (0, 1))
BLACK_T, WHITE_T = ((0, 1),) * 3, ((1, 1),) * 3
GREYS = filled([("white", WHITE), ("black", BLACK)], (3, 6, 1))
NAMED = (("black", BLACK_T), ("white", WHITE_T))
EYES = [None, (3, 6, 1), (99, 1, 50)]


def some_books():
    for eye in EYES:
        for many in (0, 1, 2, 9, 24):
            rows = [(chr(97 + (place * 7) % 26) * (1 + place % 5),
                     SOME_SHADES[(place * 37) % 125]) for place in range(many)]
            yield filled(rows, eye)


def some_lights():
    source = random.Random(22)
    for trial in range(30):
        yield tuple([SOME_SHADES[source.randrange(125)] for light in range(1 + trial % 5)])


class Held(unittest.TestCase):
    def held(self, told, word):
        """What is told is a claim of this word with its paper, and is taken."""
        self.assertIs(type(told), tuple)
        claim, paper = told
        self.assertEqual(claim[0], word)
        self.assertIs(holds(claim, paper), True)
        self.assertTrue(is_true(claim, paper))
        return told


class Lights(Held):
    def test_written_out(self):
        lights = (BLACK, WHITE)
        grey = shade_at(Fraction(1, 2), Fraction(1, 2), Fraction(1, 2))
        self.assertEqual(paper_lights(lights, grey), (("made", (BLACK_T, WHITE_T), ((1, 2),) * 3), ((1, 2), (1, 2))))
        near = ("near", (BLACK_T, WHITE_T), ((1, 1), (0, 1), (0, 1)), EVEN, ((1, 3),) * 3)
        self.assertEqual(paper_lights(lights, shade_at(1, 0, 0)), (near, ((2, 3), (1, 3))))
        near = ("near", (BLACK_T, WHITE_T), ((1, 1), (0, 1), (0, 1)), (4, 1, 1), ((2, 3),) * 3)
        self.assertEqual(paper_lights(eye=(4, 1, 1), shade=shade_at(1, 0, 0), lights=lights), (near, ((1, 3), (2, 3))))
        claim, paper = paper_line(shade=shade_at(1, 0, 0), lights=lights)
        self.assertEqual(claim, ("out", (BLACK_T, WHITE_T), ((1, 1), (0, 1), (0, 1))))
        self.assertIsNone(paper_line(lights, grey))

    def test_made_where_it_is_else_near(self):
        words = []
        for lights in some_lights():
            for place, shade in enumerate(SOME_SHADES[::16] + list(lights) + [mix(lights)]):
                eye = EYES[place % 3]
                shares, near, line = make(lights, shade, eye)
                word = "made" if can_make(lights, shade) else "near"
                claim, paper = self.held(paper_lights(lights, shade, eye), word)
                self.assertEqual(claim[1:3], (tuple([shares_of(light) for light in lights]), shares_of(shade)))
                if word == "near":
                    self.assertEqual(claim[3:], (eye or EVEN, shares_of(near)))
                words.append(word)
        self.assertGreater(words.count("made"), 50)
        self.assertGreater(words.count("near"), 50)

    def test_a_line_just_where_it_is_not_made(self):
        for lights in some_lights():
            for shade in SOME_SHADES[::16] + list(lights) + [mix(lights)]:
                told = paper_line(lights, shade)
                self.assertEqual(told is None, can_make(lights, shade))
                if told is not None:
                    claim, paper = self.held(told, "out")
                    self.assertEqual(claim[1:], (tuple([shares_of(light) for light in lights]), shares_of(shade)))

    def test_many_figures(self):
        source = random.Random(60)
        for many in range(1, 6):
            lights = tuple([shade_at(*[Fraction(source.randrange(GREAT),
                                                GREAT + source.randrange(99)) for light in range(3)])
                            for place in range(many)])
            shade = shade_at(*[Fraction(source.randrange(GREAT), GREAT) for light in range(3)])
            for tried in (shade, mix(lights)):
                claim, paper = paper_lights(lights, tried, (98, 3, 17))
                self.assertIs(holds(claim, paper), True)
                told = paper_line(lights, tried)
                if told is not None:
                    self.assertIs(holds(*told), True)

    def test_lights_that_are_none(self):
        for thing in [None, True, 0, "", [], [ONE], (), {}, ONE, BLACK, (ONE,) * 6, object()] + HOLDERS:
            with self.subTest(repr(thing)):
                self.assertIsNone(caught(NoLights, paper_lights, thing, None, 0).place)
                self.assertIsNone(caught(NoLights, paper_lights, eye=None, shade=ONE, lights=thing).place)
                self.assertIsNone(caught(NoLights, paper_line, thing, None).place)
        for thing in NO_SHADES:
            for place in range(5):
                lights = (ONE,) * place + (thing,) + (None,) * (4 - place)
                self.assertEqual(caught(NoLights, paper_lights, lights, None, 0).place, place)
                self.assertEqual(caught(NoLights, paper_line, lights, None).place, place)

    def test_shades_and_eyes_that_are_none(self):
        for thing in NO_SHADES:
            with self.subTest(repr(thing)):
                self.assertIsNone(caught(NoShade, paper_lights, (ONE, OTHER), thing, 0).light)
                self.assertIsNone(caught(NoShade, paper_lights, (ONE, OTHER), thing).light)
                self.assertIsNone(caught(NoShade, paper_line, (ONE, OTHER), thing).light)
        for thing in NO_EYES:
            with self.subTest(repr(thing)):
                # Where the Shade is made no eye is told, but it is refused all the same.
                for shade in (ONE, BLACK):
                    self.assertIs(caught(NoEye, paper_lights, (ONE, OTHER), shade, thing).eye, thing)


class Called(Held):
    def test_written_out(self):
        self.assertEqual(paper_called(GREYS, ONE), (("called", NAMED, ONE_T, (3, 6, 1), ("black",)), None))
        self.assertEqual(paper_called(shade=WHITE, book=GREYS),
                         (("called", NAMED, WHITE_T, (3, 6, 1), ("white",)), None))
        self.assertEqual(paper_called(Book(), ONE), (("called", (), ONE_T, EVEN, ()), None))

    def test_taken(self):
        for book in some_books():
            for shade in SOME_SHADES[::9]:
                claim, paper = self.held(paper_called(book, shade), "called")
                self.assertEqual((claim[3:], paper), ((book.eye, book.called(shade)), None))
                self.assertEqual([name for name, shares in claim[1]], sorted(book.names()))

    def test_refused(self):
        for thing in NO_BOOKS:
            with self.subTest(repr(thing)):
                self.assertIsNone(caught(NoName, paper_called, thing, ONE).name)
                self.assertIsNone(caught(NoName, paper_called, shade=None, book=thing).name)
        for thing in NO_SHADES:
            for book in (Book(), GREYS):
                with self.subTest(repr(thing)):
                    self.assertIsNone(caught(NoShade, paper_called, book, thing).light)


class Steps(Held):
    def test_written_out(self):
        self.assertEqual(paper_steps(ONE, OTHER, (1, 2)), (("steps", ONE_T, OTHER_T, (1, 2), EVEN, 2), None))
        self.assertEqual(paper_steps(eye=(3, 6, 1), limit=(1, 2), other=OTHER, shade=ONE),
                         (("steps", ONE_T, OTHER_T, (1, 2), (3, 6, 1), 4), None))
        self.assertEqual(paper_steps(ONE, ONE, (1, 2), None), (("steps", ONE_T, ONE_T, (1, 2), EVEN, 0), None))

    def test_taken(self):
        for shade in SOME_SHADES[::11]:
            for other in SOME_SHADES[::17]:
                for limit in ((1, 1000), (1, 7), (3, 1), (1000, 1)):
                    for eye in EYES:
                        claim, paper = self.held(paper_steps(shade, other, limit, eye), "steps")
                        self.assertEqual(claim[-1], steps_between(shade, other, limit, eye))

    def test_refused(self):
        for thing in NO_SHADES:
            with self.subTest(repr(thing)):
                self.assertIsNone(caught(NoShade, paper_steps, thing, ONE, (1, 2)).light)
                self.assertIsNone(caught(NoShade, paper_steps, ONE, thing, 0, 0).light)
        for thing in NO_LIMITS:
            with self.subTest(repr(thing)):
                self.assertIs(caught(NoLimit, paper_steps, ONE, OTHER, thing).limit, thing)
                self.assertIs(caught(NoLimit, paper_steps, ONE, OTHER, thing, 0).limit, thing)
        for thing in NO_EYES:
            with self.subTest(repr(thing)):
                self.assertIs(caught(NoEye, paper_steps, ONE, OTHER, (1, 2), thing).eye, thing)
                self.assertIs(caught(NoEye, paper_steps, ONE, ONE, (1, 2), thing).eye, thing)


class Walks(Held):
    def test_written_out(self):
        rows = (((0, 1), (1, 2), "black"), ((1, 2), (1, 1), "white"))
        self.assertEqual(paper_walk(GREYS, BLACK, WHITE), (("walk", NAMED, BLACK_T, WHITE_T, (3, 6, 1), rows), None))
        self.assertEqual(paper_walk(other=ONE, shade=ONE, book=Book()), (("walk", (), ONE_T, ONE_T, EVEN, ()), None))

    def test_taken(self):
        for book in some_books():
            for shade, other in ((BLACK, WHITE), (ONE, OTHER), (ONE, ONE), (SOME_SHADES[7], SOME_SHADES[93])):
                claim, paper = self.held(paper_walk(book, shade, other), "walk")
                self.assertEqual(claim[2:], (shares_of(shade), shares_of(other), book.eye, walk(book, shade, other)))

    def test_refused(self):
        for thing in NO_BOOKS:
            with self.subTest(repr(thing)):
                self.assertIsNone(caught(NoName, paper_walk, thing, ONE, OTHER).name)
                self.assertIsNone(caught(NoName, paper_walk, other=None, shade=None, book=thing).name)
        for thing in NO_SHADES:
            for book in (Book(), GREYS):
                with self.subTest(repr(thing)):
                    self.assertIsNone(caught(NoShade, paper_walk, book, thing, OTHER).light)
                    self.assertIsNone(caught(NoShade, paper_walk, book, ONE, thing).light)


class Sure(Held):
    def test_written_out(self):
        self.assertEqual(paper_sure(GREYS, (0, 0, 0), 1), (("sure", NAMED, (3, 6, 1), (0, 0, 0), 1, ("black",)), None))
        self.assertEqual(paper_sure(steps=(255, 254, 255), book=GREYS),
                         (("sure", NAMED, (3, 6, 1), (255, 254, 255), 255, ("white",)), None))
        self.assertEqual(paper_sure(Book(), (0, 0, 0)), (("sure", (), EVEN, (0, 0, 0), 255, ()), None))

    def test_taken(self):
        for book in some_books():
            for grade in (1, 3, 255, 1000):
                for shade in (ONE, OTHER, BLACK, SOME_SHADES[62]):
                    steps = printed(shade, grade)
                    claim, paper = self.held(paper_sure(book, steps, grade), "sure")
                    self.assertEqual(claim[2:], (book.eye, steps, grade, sure_names(book, steps, grade)))

    def test_refused(self):
        for thing in NO_BOOKS:
            with self.subTest(repr(thing)):
                self.assertIsNone(caught(NoName, paper_sure, thing, (0, 0, 0)).name)
                self.assertIsNone(caught(NoName, paper_sure, grade=0, steps=None, book=thing).name)
        for thing in NO_GRADES:
            with self.subTest(repr(thing)):
                self.assertIs(caught(NoGrade, paper_sure, GREYS, (0, 0, 0), thing).grade, thing)
                self.assertIs(caught(NoGrade, paper_sure, GREYS, None, thing).grade, thing)
        for thing in NO_WHOLES + [(0, 0), (0, 0, 0, 0), [0, 0, 0]]:
            with self.subTest(repr(thing)):
                self.assertIsNone(caught(NoStep, paper_sure, GREYS, thing, 3).light)
        for thing in no_steps(3):
            for light in range(3):
                steps = (0,) * light + (thing,) + (-1,) * (2 - light)
                self.assertEqual(caught(NoStep, paper_sure, GREYS, steps, 3).light, light)


class Whole(unittest.TestCase):
    def test_the_same_each_time_and_nothing_changed(self):
        for book in some_books():
            ahead = str(book)
            for ask in (lambda: paper_called(book, ONE), lambda: paper_walk(book, ONE, OTHER),
                        lambda: paper_sure(book, (1, 0, 1), 2),
                        lambda: paper_lights((ONE, OTHER), BLACK), lambda: paper_line((ONE, OTHER), BLACK),
                        lambda: paper_steps(ONE, OTHER, (1, 2))):
                self.assertEqual(repr(ask()), repr(ask()))
            self.assertEqual(str(book), ahead)

    def test_a_paper_stays_as_the_book_goes_on(self):
        book = filled([("white", WHITE), ("black", BLACK)])
        told = paper_called(book, ONE)
        ahead = repr(told)
        book.drop("black")
        book.rename("white", "pale")
        self.assertEqual(repr(told), ahead)
        self.assertIs(holds(*told), True)
        self.assertIs(holds(*paper_called(book, ONE)), True)


if __name__ == "__main__":
    unittest.main()
