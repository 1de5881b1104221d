import unittest
from fractions import Fraction

from lightshares.books import Book
from lightshares.crowds import crowds, pairs_near, thinned
from lightshares.deeds import opposite
from lightshares.errors import NoBack, NoLimit, NoName
from lightshares.nearness import far
from lightshares.shades import Shade
from things import BLACK, NO_BOOKS, NO_LIMITS, SOME_SHADES, WHITE, as_tuple, caught, filled

GREAT = 10 ** 59 + 7
ASKED = (pairs_near, crowds, thinned)


def greys(**tops):
    """A Book of Shades along one light, tenths apart."""
    return filled([(name, Shade(as_tuple(Fraction(top, 10)), (0, 1), (0, 1))) for name, top in tops.items()])


def near_by_hand(book, limit):
    names = sorted(book.names())
    return {(one, other) for one in names for other in names
            if one < other and Fraction(*book.apart(one, other)) < Fraction(*limit)}


def crowds_by_hand(book, limit):
    """Each name with all that can be reached from it."""
    near = near_by_hand(book, limit)
    told = set()
    for name in book.names():
        reached, fresh = {name}, {name}
        while fresh:
            fresh = {other for pair in near if set(pair) & reached for other in pair} - reached
            reached |= fresh
        told.add(tuple(sorted(reached)))
    return tuple(sorted(told))


def some_books():
    for eye in (None, (3, 6, 1), (99, 1, 50)):
        for step in (7, 37, 54):
            for many in (0, 1, 2, 9, 24):
                rows = [(chr(97 + (place * 7) % 26) * (1 + place % 5), SOME_SHADES[(place * step) % 125])
                        for place in range(many)]
                yield filled(rows, eye)


LIMITS = [(1, 1000), (1, 36), (1, 9), (1, 4), (1, 2), (1, 1), (3, 1), (17, 2), (100, 1), (1000, 1)]


class Pairs(unittest.TestCase):
    def test_written_out(self):
        book = greys(d=0, c=1, b=3, a=9)
        self.assertEqual(pairs_near(book, (1, 50)), (("c", "d"),))
        self.assertEqual(pairs_near(book, (1, 20)), (("b", "c"), ("c", "d")))
        self.assertEqual(pairs_near(limit=(1, 10), book=book), (("b", "c"), ("b", "d"), ("c", "d")))
        self.assertEqual(pairs_near(book, (1, 1000)), ())
        self.assertEqual(len(pairs_near(book, (1000, 1))), 6)

    def test_just_at_a_limit_and_a_little_beside_it(self):
        book = greys(one=2, two=4)
        for asked, apart, together in ((pairs_near, (), (("one", "two"),)),
                                       (crowds, (("one",), ("two",)), (("one", "two"),))):
            self.assertEqual(asked(book, (1, 25)), apart)
            self.assertEqual(asked(book, as_tuple(Fraction(1, 25) - Fraction(1, GREAT))), apart)
            self.assertEqual(asked(book, as_tuple(Fraction(1, 25) + Fraction(1, GREAT))), together)
        self.assertEqual(thinned(book, (1, 25)).names(), ("one", "two"))
        self.assertEqual(thinned(book, as_tuple(Fraction(1, 25) + Fraction(1, GREAT))).names(), ("one",))

    def test_alike_shades_are_too_near(self):
        book = filled([("two", WHITE), ("one", WHITE)])
        self.assertEqual(pairs_near(book, (1, 1000)), (("one", "two"),))
        self.assertEqual(crowds(book, (1, 1000)), (("one", "two"),))
        self.assertEqual(thinned(book, (1, 1000)).names(), ("two",))

    def test_by_the_books_eye(self):
        rows = [("ink", BLACK), ("ember", Shade((1, 2), (0, 1), (0, 1))), ("sky", Shade((0, 1), (0, 1), (1, 2)))]
        self.assertEqual(pairs_near(filled(rows), (1, 3)), (("ember", "ink"), ("ink", "sky")))
        self.assertEqual(pairs_near(filled(rows, (2, 1, 1)), (1, 3)), (("ink", "sky"),))
        self.assertEqual(crowds(filled(rows, (2, 1, 1)), (1, 3)), (("ember",), ("ink", "sky")))
        self.assertEqual(thinned(filled(rows, (2, 1, 1)), (1, 3)).names(), ("ink", "ember"))

    def test_any_book(self):
        for book in some_books():
            for limit in LIMITS:
                told = pairs_near(book, limit)
                self.assertIs(type(told), tuple)
                self.assertTrue(all(type(pair) is tuple for pair in told))
                self.assertEqual(told, tuple(sorted(near_by_hand(book, limit))))


class Crowds(unittest.TestCase):
    def test_chains(self):
        book = greys(e=0, a=1, d=2, z=5, b=8, c=9, alone=4)
        self.assertEqual(crowds(book, (1, 50)), (("a", "d", "e"), ("alone", "z"), ("b", "c")))
        self.assertEqual(crowds(book, (1, 25)), crowds(book, (1, 50)))
        self.assertEqual(crowds(book, (1, 24)), (("a", "alone", "d", "e", "z"), ("b", "c")))
        self.assertEqual(crowds(limit=(1, 10), book=book), (("a", "alone", "b", "c", "d", "e", "z"),))
        self.assertEqual(crowds(book, (1, 1000)), tuple([(name,) for name in sorted(book.names())]))

    def test_a_long_chain(self):
        shades = [Shade(as_tuple(Fraction(place, 23)), (0, 1), (0, 1)) for place in range(24)]
        book = filled([(chr(97 + (place * 5) % 24), shade) for place, shade in enumerate(shades)])
        self.assertEqual(crowds(book, (1, 528)), (tuple([chr(97 + place) for place in range(24)]),))
        self.assertEqual(len(crowds(book, (1, 529))), 24)

    def test_crowds_that_meet_late(self):
        book = greys(a=0, b=10, c=1, d=9, e=2, f=8, g=3, h=7, i=5)
        self.assertEqual(crowds(book, (1, 50)), (("a", "c", "e", "g"), ("b", "d", "f", "h"), ("i",)))
        self.assertEqual(crowds(book, (1, 24)), (tuple("abcdefghi"),))

    def test_any_book(self):
        for book in some_books():
            for limit in LIMITS:
                told = crowds(book, limit)
                self.assertIs(type(told), tuple)
                self.assertTrue(all(type(crowd) is tuple for crowd in told))
                self.assertEqual(told, crowds_by_hand(book, limit))

    def test_an_empty_book(self):
        self.assertEqual(pairs_near(Book(), (1, 1)), ())
        self.assertEqual(crowds(Book(), (1, 1)), ())
        self.assertEqual(thinned(Book(), (1, 1)), Book())


class Thinned(unittest.TestCase):
    def test_as_put_in(self):
        self.assertEqual(thinned(greys(a=0, b=1, c=2, d=3), (1, 50)).names(), ("a", "c"))
        self.assertEqual(thinned(greys(b=1, c=2, a=0, d=3), (1, 50)).names(), ("b", "d"))
        self.assertEqual(thinned(greys(d=3, c=2, b=1, a=0), (1, 50)).names(), ("d", "b"))
        self.assertEqual(thinned(limit=(1, 20), book=greys(a=0, b=1, c=2, d=3)).names(), ("a", "d"))

    def test_any_book(self):
        for book in some_books():
            for limit in LIMITS:
                thin = thinned(book, limit)
                self.assertIsInstance(thin, Book)
                self.assertIsNot(thin, book)
                self.assertEqual(thin.eye, book.eye)
                stay = []
                for name in book.names():
                    if all(Fraction(*book.apart(name, other)) >= Fraction(*limit) for other in stay):
                        stay.append(name)
                self.assertEqual(thin.names(), tuple(stay))
                self.assertEqual([thin.shade(name) for name in stay], [book.shade(name) for name in stay])
                self.assertEqual(pairs_near(thin, limit), ())
                for name in set(book.names()) - set(stay):
                    gaps = [Fraction(*far(book.shade(name), thin.shade(other), book.eye)) for other in stay]
                    self.assertLess(min(gaps), Fraction(*limit))

    def test_there_is_no_deed_to_take_back(self):
        for book in some_books():
            thin = thinned(book, (1, 4))
            ahead = str(thin)
            caught(NoBack, thin.back)
            self.assertEqual(str(thin), ahead)
            thin.put("new", BLACK) if len(thin) < 24 else thin.drop(thin.names()[0])
            thin.back()
            self.assertEqual(str(thin), ahead)
            caught(NoBack, thin.back)

    def test_both_go_on_apart(self):
        book = greys(a=0, b=1, c=2, d=3)
        ahead = str(book)
        thin = thinned(book, (1, 50))
        thin_ahead = str(thin)
        thin.put("b", WHITE)
        thin.alter("a", opposite)
        thin.drop("c")
        self.assertEqual(str(book), ahead)
        book.drop("a")
        book.rename("c", "sky")
        self.assertEqual(thin.names(), ("a", "b"))
        for each_time in range(3):
            thin.back()
        self.assertEqual(str(thin), thin_ahead)
        for each_time in range(2):
            book.back()
        self.assertEqual(str(book), ahead)
        for each_time in range(4):
            book.back()
        caught(NoBack, book.back)
        self.assertEqual(str(thin), thin_ahead)

    def test_where_all_stay(self):
        book = greys(a=0, b=5)
        thin = thinned(book, (1, 1000))
        self.assertEqual(thin, book)
        thin.drop("a")
        self.assertEqual(book.names(), ("a", "b"))


class Refused(unittest.TestCase):
    def test_what_is_no_book_ahead_of_the_limit(self):
        for asked in ASKED:
            for thing in NO_BOOKS:
                with self.subTest(repr(thing)):
                    for limit in ((1, 2), None, (0, 1)):
                        self.assertIsNone(caught(NoName, asked, thing, limit).name)
                    self.assertIsNone(caught(NoName, asked, limit="no", book=thing).name)

    def test_what_is_no_limit(self):
        for asked in ASKED:
            for book in (Book(), greys(a=0, b=5)):
                ahead = str(book)
                for thing in NO_LIMITS:
                    with self.subTest(repr(thing)):
                        self.assertIs(caught(NoLimit, asked, book, thing).limit, thing)
                        self.assertIs(caught(NoLimit, asked, limit=thing, book=book).limit, thing)
                self.assertEqual(str(book), ahead)

    def test_asking_changes_nothing(self):
        book = greys(d=0, c=1, b=3, a=9)
        ahead = str(book)
        for asked in ASKED:
            for limit in LIMITS:
                asked(book, limit)
                self.assertEqual(str(book), ahead)
        book.back()
        self.assertEqual(book.names(), ("d", "c", "b"))


if __name__ == "__main__":
    unittest.main()
