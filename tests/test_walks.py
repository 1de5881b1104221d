import unittest
from fractions import Fraction

from lightshares.books import Book
from lightshares.errors import NoName, NoPart, NoShade
from lightshares.fractions import is_fraction
from lightshares.shades import Shade, shares_of
from lightshares.walks import between, walk
from things import BLACK, NO_BOOKS, NO_SHADES, NO_SHARES, SOME_SHADES, WHITE, as_tuple, caught, filled

GREAT = 10 ** 59 + 7
ONE = Shade((1, 2), (0, 1), (3, 4))
OTHER = Shade((1, 3), (1, 1), (0, 1))
LITTLE = Fraction(1, GREAT)


def grey(share):
    return Shade(*[as_tuple(Fraction(share))] * 3)


def some_books():
    for eye in (None, (3, 6, 1), (99, 1, 50)):
        for step in (7, 37, 54, 62):
            for many in (1, 2, 9, 24):
                rows = [(chr(97 + (place * 7) % 26) * (1 + place % 5), SOME_SHADES[(place * step) % 125])
                        for place in range(many)]
                yield filled(rows, eye)


def great_book():
    rows = []
    for place in range(24):
        tops = [(GREAT // 40) * ((place * 7 + light * 5) % 23 + 1) for light in range(3)]
        shares = [Fraction(top, GREAT + 2 * place + light) for light, top in enumerate(tops)]
        rows.append((chr(97 + place), Shade(*[as_tuple(share) for share in shares])))
    return filled(rows, (5, 3, 2))


WAYS = [(BLACK, WHITE), (WHITE, BLACK), (ONE, OTHER), (SOME_SHADES[7], SOME_SHADES[93]),
        (Shade((1, GREAT), (1, 7), (1, 2)), Shade((2, 5), (1, 7), (GREAT - 1, GREAT)))]


class Between(unittest.TestCase):
    def test_written_out(self):
        self.assertEqual(str(between(ONE, OTHER, (1, 2))), "5/12 1/2 3/8")
        self.assertEqual(str(between(ONE, OTHER, (1, 3))), "4/9 1/3 1/2")
        self.assertEqual(str(between(part=(2, 3), other=OTHER, shade=ONE)), "7/18 2/3 1/4")

    def test_at_both_ends(self):
        for shade in SOME_SHADES[::3]:
            for other in SOME_SHADES[::4]:
                self.assertEqual(between(shade, other, (0, 1)), shade)
                self.assertEqual(between(shade, other, (1, 1)), other)

    def test_any_part(self):
        for shade in SOME_SHADES[::7]:
            for other in SOME_SHADES[::9]:
                for part in (Fraction(1, 2), Fraction(2, 7), LITTLE, 1 - LITTLE):
                    told = between(shade, other, as_tuple(part))
                    shares = [Fraction(*one) + part * (Fraction(*two) - Fraction(*one))
                              for one, two in zip(shares_of(shade), shares_of(other))]
                    self.assertEqual(shares_of(told), tuple([as_tuple(share) for share in shares]))
                    self.assertEqual(told, between(other, shade, as_tuple(1 - part)))

    def test_refused_from_the_left(self):
        for thing in NO_SHADES:
            with self.subTest(repr(thing)):
                for part in ((1, 2), None, (3, 2)):
                    self.assertIsNone(caught(NoShade, between, thing, ONE, part).light)
                    self.assertIsNone(caught(NoShade, between, ONE, thing, part).light)
                    self.assertIsNone(caught(NoShade, between, part=part, other=thing, shade=thing).light)
        for thing in NO_SHARES:
            with self.subTest(repr(thing)):
                self.assertIs(caught(NoPart, between, ONE, OTHER, thing).part, thing)
                self.assertIs(caught(NoPart, between, part=thing, other=ONE, shade=ONE).part, thing)


class Walk(unittest.TestCase):
    def test_written_out(self):
        book = filled([("white", WHITE), ("black", BLACK)])
        self.assertEqual(walk(book, BLACK, WHITE), (((0, 1), (1, 2), "black"), ((1, 2), (1, 1), "white")))
        self.assertEqual(walk(book, WHITE, BLACK), (((0, 1), (1, 2), "white"), ((1, 2), (1, 1), "black")))
        self.assertEqual(walk(other=grey(Fraction(1, 4)), shade=BLACK, book=book), (((0, 1), (1, 1), "black"),))
        half = grey(Fraction(1, 2))
        self.assertEqual(walk(book, BLACK, half), (((0, 1), (1, 1), "black"), ((1, 1), (1, 1), "white")))
        self.assertEqual(walk(book, half, BLACK), (((0, 1), (0, 1), "white"), ((0, 1), (1, 1), "black")))

    def test_rising_by_worth_not_as_tuples(self):
        book = filled([("d", WHITE), ("c", grey(Fraction(1, 2))), ("b", grey(Fraction(1, 2))),
                        ("a", grey(Fraction(1, 6)))])
        self.assertEqual(walk(book, BLACK, WHITE), (
            ((0, 1), (1, 3), "a"), ((1, 3), (3, 4), "b"), ((1, 3), (3, 4), "c"), ((3, 4), (1, 1), "d")))
        many = filled([(chr(122 - place), grey(Fraction(place, 11))) for place in range(12)])
        told = walk(many, BLACK, WHITE)
        self.assertEqual([row[2] for row in told], [chr(122 - place) for place in range(12)])
        self.assertEqual(told[5], ((9, 22), (1, 2), "u"))
        back = walk(many, WHITE, BLACK)
        self.assertEqual([row[2] for row in back], [chr(111 + place) for place in range(12)])

    def test_ties_all_along(self):
        # Both stand equally far from every Shade of the way, on either side of it.
        book = filled([("sky", Shade((0, 1), (0, 1), (1, 1))), ("leaf", Shade((0, 1), (1, 1), (0, 1)))])
        self.assertEqual(walk(book, BLACK, WHITE), (((0, 1), (1, 1), "leaf"), ((0, 1), (1, 1), "sky")))

    def test_a_name_that_is_nearest_at_one_place_alone(self):
        # It is as near as both others just where they meet, and farther everywhere else.
        top, right = Shade((1, 2), (1, 2), (0, 1)), Shade((1, 1), (0, 1), (0, 1))
        book = filled([("left", BLACK), ("right", right), ("top", top)])
        told = walk(book, BLACK, right)
        self.assertEqual(told, (((0, 1), (1, 2), "left"), ((1, 2), (1, 2), "top"), ((1, 2), (1, 1), "right")))

    def test_a_way_from_a_shade_to_itself(self):
        for book in some_books():
            for shade in SOME_SHADES[::19]:
                names = book.called(shade)
                self.assertEqual(walk(book, shade, shade), tuple([((0, 1), (1, 1), name) for name in names]))

    def test_an_empty_book(self):
        self.assertEqual(walk(Book(), BLACK, WHITE), ())
        self.assertEqual(walk(Book((3, 6, 1)), ONE, ONE), ())

    def held_against_called(self, book, shade, other):
        told = walk(book, shade, other)
        self.assertIs(type(told), tuple)
        self.assertTrue(all(type(row) is tuple and is_fraction(row[0]) and is_fraction(row[1]) for row in told))
        rows = [(Fraction(*low), Fraction(*high), name) for low, high, name in told]
        self.assertEqual(rows, sorted(rows))
        self.assertEqual(len({name for low, high, name in rows}), len(rows))
        ends = sorted({end for low, high, name in rows for end in (low, high)} | {Fraction(0), Fraction(1)})
        tried = ends + [(one + two) / 2 for one, two in zip(ends, ends[1:])]
        tried += [end + little for end in ends for little in (LITTLE, -LITTLE) if 0 <= end + little <= 1]
        for part in tried:
            names = book.called(between(shade, other, as_tuple(part)))
            self.assertEqual(names, tuple(sorted([name for low, high, name in rows if low <= part <= high])))

    def test_held_against_called_at_the_ends_between_them_and_a_little_beyond(self):
        for book in some_books():
            for shade, other in WAYS:
                self.held_against_called(book, shade, other)

    def test_many_figures(self):
        book = great_book()
        for shade, other in WAYS:
            self.held_against_called(book, shade, other)

    def test_asking_changes_nothing(self):
        book = filled([("white", WHITE), ("black", BLACK)])
        ahead = str(book)
        walk(book, ONE, OTHER)
        self.assertEqual((str(book), str(ONE), str(OTHER)), (ahead, "1/2 0 3/4", "1/3 1 0"))
        book.back()
        self.assertEqual(book.names(), ("white",))


class Refused(unittest.TestCase):
    def test_what_is_no_book_ahead_of_shades(self):
        for thing in NO_BOOKS:
            with self.subTest(repr(thing)):
                self.assertIsNone(caught(NoName, walk, thing, ONE, OTHER).name)
                self.assertIsNone(caught(NoName, walk, thing, None, "no").name)
                self.assertIsNone(caught(NoName, walk, other=None, shade=None, book=thing).name)

    def test_what_is_no_shade(self):
        for book in (Book(), filled([("white", WHITE), ("black", BLACK)])):
            for thing in NO_SHADES:
                with self.subTest(repr(thing)):
                    self.assertIsNone(caught(NoShade, walk, book, thing, OTHER).light)
                    self.assertIsNone(caught(NoShade, walk, book, ONE, thing).light)
                    self.assertIsNone(caught(NoShade, walk, other=thing, shade=thing, book=book).light)


if __name__ == "__main__":
    unittest.main()
