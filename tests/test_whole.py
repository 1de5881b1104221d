"""What holds over the whole program: its names, what is told again, what stays, and how its parts go together."""

import inspect
import random
import unittest
from fractions import Fraction
from importlib import import_module

from lightshares.blends import Blend
from lightshares.books import Book
from lightshares.booktexts import read_book, show_book
from lightshares.checker import holds
from lightshares.crowds import crowds, pairs_near, thinned
from lightshares.deeds import darker, done, duller, each, lighter, opposite, turned
from lightshares.desk import Desk
from lightshares.lights import can_make, make
from lightshares.mixing import mix
from lightshares.nearness import far
from lightshares.papers import paper_called, paper_lights, paper_line, paper_steps, paper_sure, paper_walk
from lightshares.prints import could_be, printed, regraded, span_of
from lightshares.rows import Row, steps_between
from lightshares.shades import Shade
from lightshares.sure import sure_names
from lightshares.walks import between, walk
from lightshares.wheel import by_wheel, wheel_of
from lightshares.writing import read, show, ways
from things import BLACK, SOME_SHADES, WHITE, as_tuple, filled

INTERFACE = {
    "fractions": ["is_fraction(thing)", "fraction(top, bottom=1)", "plus(one, other)", "minus(one, other)",
                  "times(one, other)", "over(one, other)", "below(one, other)", "nearest_whole(one)",
                  "root_above(one)"],
    "shades": ["Shade(ember, leaf, sky)", "is_shade(thing)", "shares_of(shade)"],
    "deeds": ["lighter(shade, by=None)", "darker(shade, by=None)", "duller(shade, by=None)", "turned(shade, by=None)",
              "opposite(shade)", "done(shade, deeds)", "each(shades, deed)"],
    "mixing": ["mix(shades, weights=None)"],
    "blends": ["Blend()", "Blend.put(self, shade, weight=1)", "Blend.joined(self, other)", "Blend.total(self)",
               "Blend.shade(self)"],
    "wheel": ["wheel_of(shade)", "by_wheel(white, black, turn=None)"],
    "writing": ["ways()", "show(shade, way='shares')", "read(text, way=None)"],
    "prints": ["printed(shade, grade=255)", "span_of(step, grade=255)", "could_be(shade, steps, grade=255)",
               "regraded(step, grade, other)"],
    "nearness": ["far(shade, other, eye=None)"],
    "rows": ["steps_between(shade, other, limit, eye=None)", "Row(shade, other, limit, eye=None)",
             "Row.at(self, place)",
             "Row.shades(self)"],
    "books": ["is_name(thing)", "Book(eye=None)", "Book.put(self, name, shade)", "Book.alter(self, name, deed)",
              "Book.rename(self, name, new)", "Book.drop(self, name)", "Book.back(self)", "Book.shade(self, name)",
              "Book.names(self, key=None, about=False)", "Book.those(self, ask)", "Book.apart(self, name, other)",
              "Book.called(self, shade)"],
    "crowds": ["pairs_near(book, limit)", "crowds(book, limit)", "thinned(book, limit)"],
    "walks": ["between(shade, other, part)", "walk(book, shade, other)"],
    "booktexts": ["show_book(book)", "read_book(text)"],
    "lights": ["make(lights, shade, eye=None)", "can_make(lights, shade)"],
    "sure": ["sure_names(book, steps, grade=255)"],
    "checker": ["holds(claim, paper)"],
    "papers": ["paper_lights(lights, shade, eye=None)", "paper_line(lights, shade)", "paper_called(book, shade)",
               "paper_steps(shade, other, limit, eye=None)", "paper_walk(book, shade, other)",
               "paper_sure(book, steps, grade=255)"],
    "desk": ["Desk(eye=None)", "Desk.say(self, row)"],
}

ONE = Shade((1, 2), (0, 1), (3, 4))
OTHER = Shade((1, 3), (1, 1), (0, 1))
EYE = (3, 6, 1)
LIGHTS = (BLACK, WHITE, ONE, OTHER, SOME_SHADES[62])


def a_full_book():
    return filled([(chr(97 + (place * 7) % 26) * (1 + place % 4),
                    SOME_SHADES[(place * 37) % 125]) for place in range(24)], EYE)


def questions(book, blend, row):
    """Questions of all kinds; each is asked anew whenever it is called."""
    claim, paper = paper_walk(book, ONE, OTHER)
    asked = [
        lambda: [deed(shade, by) for deed in (lighter, darker, duller) for shade in (ONE, OTHER) for by in (None,
                                                                                                            (1, 3))],
        lambda: [turned(ONE, 2), opposite(ONE), done(ONE, (("lighter",), ("turned", -1), ("opposite",)))],
        lambda: each(LIGHTS, opposite), lambda: mix(LIGHTS), lambda: mix(LIGHTS, (1, 0, 3, 5, 9)),
        lambda: (blend.total(), blend.shade(), str(blend), len(blend), blend.joined(blend)),
        lambda: [wheel_of(shade) for shade in LIGHTS], lambda: by_wheel((1, 4), (1, 3), (7, 2)),
        lambda: [show(shade, way) for shade in LIGHTS for way in ways()], lambda: read("turn 14/3 white 0 black 1/4"),
        lambda: [printed(ONE), span_of(7, 9), could_be(ONE, (2, 0, 2), 3), regraded(3, 7, 99)],
        lambda: far(ONE, OTHER, EYE), lambda: steps_between(ONE, OTHER, (1, 7), EYE), lambda: row.shades(),
        lambda: row.at(2),
        lambda: str(Row(ONE, OTHER, (1, 9), EYE)),
        lambda: [book.names(), book.names(wheel_of_white, True), book.those(bool), book.called(ONE), str(book),
                 len(book)],
        lambda: [book.apart(one, other) for one in book.names()[:5] for other in book.names()[5:9]],
        lambda: [pairs_near(book, (1, 4)), crowds(book, (1, 4)), show_book(thinned(book, (1, 4)))],
        lambda: between(ONE, OTHER, (2, 7)), lambda: walk(book, ONE, OTHER),
        lambda: show_book(read_book(show_book(book))),
        lambda: [make(LIGHTS, shade, EYE) for shade in SOME_SHADES[::25]], lambda: can_make(LIGHTS[:3], OTHER),
        lambda: sure_names(book, (1, 0, 1), 3), lambda: holds(claim, paper), lambda: paper_called(book, ONE),
        lambda: [paper_lights(LIGHTS[:3], OTHER, EYE), paper_line(LIGHTS[:3], OTHER), paper_steps(ONE, OTHER, (1, 7))],
        lambda: [paper_walk(book, ONE, OTHER), paper_sure(book, (1, 0, 1), 3)],
    ]
    return asked


def wheel_of_white(shade):
    return wheel_of(shade)[1]


class Interface(unittest.TestCase):
    def test_everything_is_there_under_its_name(self):
        for module, rows in INTERFACE.items():
            held = import_module("lightshares." + module)
            for row in rows:
                name, rest = row.split("(", 1)
                thing = held
                for part in name.split("."):
                    thing = getattr(thing, part)
                with self.subTest(row):
                    self.assertEqual(str(inspect.signature(thing)), "(" + rest)

    def test_values_that_are_told_of_a_class(self):
        self.assertEqual((ONE.ember, ONE.leaf, ONE.sky), ((1, 2), (0, 1), (3, 4)))
        self.assertEqual((Book().eye, Book(EYE).eye), ((1, 1, 1), EYE))


class Again(unittest.TestCase):
    def test_told_the_same_behind_other_questions_and_deeds(self):
        book, blend, row = a_full_book(), Blend(), Row(ONE, OTHER, (1, 9))
        blend.put(ONE, 3)
        blend.put(OTHER)
        asked = questions(book, blend, row)
        first = [repr(ask()) for ask in asked]
        source = random.Random(2)
        for turn in range(6):
            for place in source.sample(range(len(asked)), len(asked)):
                self.assertEqual(repr(asked[place]()), first[place])
            other, another = a_full_book(), Blend()
            other.drop(other.names()[turn])
            other.alter(other.names()[0], opposite)
            another.put(WHITE, 1 + turn)
            for ask in questions(other, another, Row(OTHER, ONE, (1, 5))):
                ask()
            name = book.names()[turn]
            book.alter(name, lighter)
            book.rename(name, "renamed")
            book.drop("renamed")
            for deed in range(3):
                book.back()

    def test_what_was_handed_in_stays(self):
        book, blend, row = a_full_book(), Blend(), Row(ONE, OTHER, (1, 9))
        blend.put(ONE, 3)
        handed = (book.names(), show_book(book), repr(blend), len(blend), repr(row), repr(LIGHTS), repr(ONE),
                  repr(OTHER))
        for ask in questions(book, blend, row):
            ask()
        self.assertEqual((book.names(), show_book(book), repr(blend), len(blend), repr(row), repr(LIGHTS), repr(ONE),
                          repr(OTHER)), handed)
        for deed in range(24):
            book.back()
        self.assertEqual(len(book), 0)

    def test_told_lists_are_the_askers_own(self):
        row = Row(ONE, OTHER, (1, 9))
        told = row.shades()
        ahead = list(told)
        told.clear()
        self.assertEqual(row.shades(), ahead)
        row.shades().append(WHITE)
        row.shades()[0] = BLACK
        self.assertEqual((row.shades(), len(row), row.at(0)), (ahead, len(ahead), ONE))
        self.assertIsNot(row.shades(), row.shades())

    def test_what_was_told_may_be_handed_in(self):
        book = a_full_book()
        for lights in (LIGHTS, LIGHTS[:3], LIGHTS[2:]):
            shares, near, line = make(lights, SOME_SHADES[88], EYE)
            book.back()
            book.put("near", near)
            self.assertIn("near", book.called(near))
            self.assertEqual(read(show(near, "wheel")), near)
            self.assertEqual(read_book(show_book(book)), book)
            self.assertEqual(str(read(str(near))), str(near))
            self.assertIs(holds(*paper_lights(lights, near)), True)
            for low, high, name in walk(book, near, WHITE):
                self.assertIn(name, book.called(between(near, WHITE, low)))
                self.assertIn(name, book.called(between(near, WHITE, high)))
            claim, paper = paper_walk(book, near, ONE)
            self.assertIs(holds(claim, paper), True)
            back = Shade(*claim[2])
            self.assertEqual(back, near)
            book.rename("near", "other")
            book.back()


class Together(unittest.TestCase):
    """The promise of the whole, across the modules."""

    def test_written_and_read_back_a_print_as_what_it_shows(self):
        for shade in SOME_SHADES:
            for way in ways():
                again = read(show(shade, way), way)
                self.assertEqual(show(again, way), show(shade, way))
                if way != "print":
                    self.assertEqual(again, shade)
                self.assertEqual(printed(again), printed(shade))

    def test_a_place_on_the_wheel_is_its_own(self):
        places = {}
        for shade in SOME_SHADES:
            turn, white, black = wheel_of(shade)
            places[turn, white, black] = shade
            self.assertEqual(by_wheel(white, black, turn), shade)
            across, pale, dark = wheel_of(opposite(shade))
            self.assertEqual((pale, dark), (black, white))
            if turn is not None:
                self.assertEqual(Fraction(*across), (Fraction(*turn) + 3) % 6)
        self.assertEqual(len(places), len(SOME_SHADES))

    def test_small_deeds_go_along_with_mixing(self):
        weights = (1, 0, 3, 5, 9)
        for deed in (lighter, darker, duller, turned, opposite, lambda shade: lighter(shade, (1, 7)),
                     lambda shade: done(shade, (("duller", (1, 3)), ("turned", -1), ("opposite",)))):
            self.assertEqual(deed(mix(LIGHTS, weights)), mix(each(LIGHTS, deed), weights))

    def test_mixing_in_any_order_and_any_brackets(self):
        source = random.Random(3)
        whole = Blend()
        puts = [(SOME_SHADES[source.randrange(125)], source.randrange(1, 1000)) for place in range(12)]
        for shade, weight in puts:
            whole.put(shade, weight)
        for trial in range(20):
            blends = []
            for shade, weight in source.sample(puts, len(puts)):
                one = Blend()
                one.put(shade, weight)
                blends.append(one)
            while len(blends) > 1:
                place = source.randrange(len(blends) - 1)
                blends[place:place + 2] = [blends[place].joined(blends[place + 1])]
            self.assertEqual(blends[0], whole)
            self.assertEqual(blends[0].shade(), mix(tuple([shade for shade, weight in puts]),
                                                    tuple([weight for shade, weight in puts])))

    def test_what_lights_make_is_what_weights_mix(self):
        for weights in ((1, 2, 3, 4, 5), (0, 0, 1, 0, 0), (9, 0, 0, 1, 7)):
            shade = mix(LIGHTS, weights)
            shares, near, line = make(LIGHTS, shade, EYE)
            self.assertEqual((near, line), (shade, None))
            bottom = 1
            for share in shares:
                bottom = bottom * share[1]
            if bottom <= 10 ** 6:
                again = mix(LIGHTS, tuple([share[0] * (bottom // share[1]) for share in shares]))
                self.assertEqual(again, shade)

    def test_a_thinned_book_has_none_too_near(self):
        book = a_full_book()
        for limit in ((1, 4), (1, 1), (3, 1)):
            thin = thinned(book, limit)
            self.assertEqual(pairs_near(thin, limit), ())
            for name in book.names():
                if name not in thin.names():
                    gaps = [Fraction(*book.apart(name, other)) for other in thin.names()]
                    self.assertLess(min(gaps), Fraction(*limit))

    def test_no_row_has_fewer_steps(self):
        source = random.Random(14)
        for shade, other in ((ONE, OTHER), (BLACK, WHITE)):
            limit = (1, 4)
            steps = steps_between(shade, other, limit, EYE)
            for trial in range(50):
                # Any row of Shades, straight or not, with one step fewer has a step that is too far.
                shares = [[Fraction(source.randrange(101), 100) for light in range(3)] for place in range(steps - 2)]
                way = [shade] + [Shade(*[as_tuple(one) for one in row]) for row in shares] + [other]
                gaps = [Fraction(*far(one, two, EYE)) for one, two in zip(way, way[1:])]
                self.assertGreater(max(gaps), Fraction(*limit))
            straight = Row(shade, other, limit, EYE).shades()
            gaps = [Fraction(*far(one, two, EYE)) for one, two in zip(straight, straight[1:])]
            self.assertLessEqual(max(gaps), Fraction(*limit))
            self.assertEqual(len(gaps), steps)

    def test_sure_names_are_called_for_each_shade_of_the_print(self):
        book = a_full_book()
        for shade in SOME_SHADES:
            for grade in (2, 9, 255):
                for name in sure_names(book, printed(shade, grade), grade):
                    self.assertIn(name, book.called(shade))

    def test_the_desk_tells_what_the_functions_tell(self):
        book, desk = a_full_book(), Desk(EYE)
        for name in book.names():
            desk.say(f"put {name} {book.shade(name)}")
        self.assertEqual(desk.say("book").replace("; ", "\n"), show_book(book))
        self.assertEqual(read_book(desk.say("book").replace("; ", "\n")), book)
        for one, other in zip(book.names(), book.names()[1:]):
            gap = Fraction(desk.say(f"apart {one} {other}"))
            self.assertEqual(gap, Fraction(*book.apart(one, other)))
            self.assertEqual(int(desk.say(f"steps {one} {other} 1/9")),
                             steps_between(book.shade(one), book.shade(other), (1, 9), EYE))
        for shade in SOME_SHADES[::10]:
            self.assertEqual(desk.say(f"called {shade}").split(" "), list(book.called(shade)))
            self.assertEqual(desk.say(f"paper {shade}"), "holds")
        self.assertEqual(desk.say("near 1/4"), " / ".join([" ".join(crowd) for crowd in crowds(book, (1, 4))]))


if __name__ == "__main__":
    unittest.main()
