import unittest
from fractions import Fraction

from lightshares.books import Book
from lightshares.booktexts import read_book, show_book
from lightshares.deeds import lighter
from lightshares.errors import NoBack, NoName, NoText
from lightshares.fractions import times
from lightshares.shades import Shade
from lightshares.writing import show, ways
from things import BLACK, HOLDERS, NO_BOOKS, SOME_SHADES, WHITE, caught, filled, shade_at

GREAT = 10 ** 59 + 7
ONE = Shade((1, 2), (0, 1), (3, 4))

NO_TEXTS = [
    None, True, False, 0, 1, b"eye 1 1 1", b"", [], ["eye 1 1 1"], (), ("eye 1 1 1",), {}, {"eye 1 1 1": 1}, ONE, BLACK,
    object(), len, str, Book,
] + HOLDERS

NO_EYE_ROWS = [
    "", " ", "eye", "eye ", "eye 1", "eye 1 1", "eye 1 1 ", "eye 1 1 1 1", "eye 1 1 1 ", " eye 1 1 1", "eye  1 1 1",
    "eye 1  1 1", "eye 1 1  1", "Eye 1 1 1", "EYE 1 1 1", "eyes 1 1 1", "ey 1 1 1", "1 1 1", "eye 0 1 1", "eye 1 0 1",
    "eye 1 1 0", "eye 100 1 1", "eye 1 100 1", "eye 1 1 100", "eye 01 1 1", "eye 1 01 1", "eye 1 1 01", "eye 00 1 1",
    "eye 1 1 001", "eye -1 1 1", "eye +1 1 1", "eye 1 1 1/2", "eye 2/2 1 1", "eye 1 1 1/1", "eye a b c", "eye 1,1,1",
    "eye 1 1 x", "eye1 1 1", "eye\t1 1 1", "eye None", "eye (1, 1, 1)", "eye #010101", "eye grey 1", "eye 1 1 1.0",
    "eye 1_0 1 1", "eye 1 1 " + "9" * 60, "eye 1 1 " + "9" * 1800, "; ", "eye 1 1 1;", "eye 1 1 1; a 0 0 0",
    "sky 1/2 0 3/4", "put sky 1/2 0 3/4", "eye: 1 1 1",
]

NO_PAGES = [
    "", " ", "sky", "sky ", "sky 1/2", "sky 1/2 0", "sky 1/2 0 ", "sky 1/2 0 3/4 ", " sky 1/2 0 3/4", "sky  1/2 0 3/4",
    "sky 1/2  0 3/4", "sky 1/2 0 3/4 1", "1/2 0 3/4", " 1/2 0 3/4", "Sky 1/2 0 3/4", "sky1 1/2 0 3/4", "s-y 1/2 0 3/4",
    "abcdefghijklm 1/2 0 3/4", "sky 2/4 0 3/4", "sky 1/2 0/1 3/4", "sky 1/2 0 3/2", "sky 01/2 0 3/4", "sky 1/2 00 3/4",
    "sky -1/2 0 3/4", "sky 1/2 0 1/1", "sky 1/2 -0 3/4", "sky 1/2,0,3/4", "sky: 1/2 0 3/4", "sky sky 1/2 0 3/4",
    "sky Shade(1/2 0 3/4)", "sky grey", "sky grey ", "sky grey 3/2", "sky grey 1/2 1/2", "sky Grey 1/2", "grey 1/2",
    "sky turn 0 white 0 black 1", "sky turn 6 white 0 black 0", "sky turn 0 white 1/2 black 1/2", "sky turn 1 white 0",
    "sky turn None white 1/2 black 1/2", "turn 0 white 0 black 0", "sky turn 1 black 0 white 0", "sky #", "sky #8000b",
    "sky #8000bff", "sky #8000BF", "sky #8000bg", "sky 8000bf", "#8000bf", "sky # 8000bf", "sky print #8000bf",
    "sky none", "sky 1/2 0 3/4;", "sky\t1/2 0 3/4", "sky\t#8000bf",
]


def some_names(many):
    return [chr(97 + (place * 7) % 26) * (1 + place % 12) for place in range(many)]


def some_rows(many, step=7):
    return [(name, SOME_SHADES[(place * step) % 125]) for place, name in enumerate(some_names(many))]


def plain_text(many):
    """A text of so many names, each in a row of its own."""
    return "\n".join(["eye 3 6 1"] + [f"{name} {shade}" for name, shade in some_rows(many)])


class ShowBook(unittest.TestCase):
    def test_written_out(self):
        book = filled([("plum", ONE), ("a", BLACK), ("eye", WHITE)], (3, 60, 99))
        self.assertEqual(show_book(book), "eye 3 60 99\nplum 1/2 0 3/4\na 0 0 0\neye 1 1 1")
        self.assertEqual(show_book(book=Book()), "eye 1 1 1")
        self.assertEqual(show_book(Book((99, 10, 2))), "eye 99 10 2")

    def test_as_it_stands_behind_deeds(self):
        book = filled([("plum", ONE), ("a", BLACK), ("b", WHITE)])
        book.rename("plum", "sloe")
        book.drop("a")
        book.alter("b", lambda shade: ONE)
        self.assertEqual(show_book(book), "eye 1 1 1\nsloe 1/2 0 3/4\nb 1/2 0 3/4")
        book.back()
        self.assertEqual(show_book(book), "eye 1 1 1\nsloe 1/2 0 3/4\nb 1 1 1")

    def test_the_same_as_its_str_and_nothing_changed(self):
        for many in range(25):
            book = filled(some_rows(many), (2, 1, 7))
            self.assertEqual(show_book(book), str(book))
            self.assertEqual(show_book(book), show_book(book))
            self.assertEqual(book.names(), tuple(some_names(many)))

    def test_what_is_no_book(self):
        for thing in NO_BOOKS:
            with self.subTest(repr(thing)):
                self.assertIsNone(caught(NoName, show_book, thing).name)
                self.assertIsNone(caught(NoName, show_book, book=thing).name)


class ReadBook(unittest.TestCase):
    def test_written_out(self):
        book = read_book("eye 3 60 99\nplum 1/2 0 3/4\na #0033ff\nb grey 1/3\nc turn 14/3 white 0 black 1/4\neye 1 1 1")
        self.assertEqual(book.eye, (3, 60, 99))
        self.assertEqual(book.names(), ("plum", "a", "b", "c", "eye"))
        self.assertEqual([str(book.shade(name)) for name in book.names()],
                         ["1/2 0 3/4", "0 1/5 1", "1/3 1/3 1/3", "1/2 0 3/4", "1 1 1"])
        self.assertEqual(read_book(text="eye 1 1 1"), Book())

    def test_written_and_read_back_alike(self):
        for many in range(25):
            for eye in ((1, 1, 1), (99, 1, 50), (10, 20, 90)):
                for step in (7, 37):
                    book = filled(some_rows(many, step), eye)
                    text = show_book(book)
                    again = read_book(text)
                    self.assertIs(type(again), Book)
                    self.assertEqual(again, book)
                    self.assertEqual((again.names(), again.eye, len(again)), (book.names(), eye, many))
                    self.assertEqual(show_book(again), text)

    def test_each_way_of_writing(self):
        for way in ways():
            for many in (1, 2, 24):
                rows = [f"{name} {show(shade, way)}" for name, shade in some_rows(many)]
                book = read_book("\n".join(["eye 3 6 1"] + rows))
                self.assertEqual(book.names(), tuple(some_names(many)))
                for name, shade in some_rows(many):
                    self.assertEqual(show(book.shade(name), way), show(shade, way))
                    if way != "print":
                        self.assertEqual(book.shade(name), shade)

    def test_the_three_ways_side_by_side(self):
        rows = [f"{name} {show(shade, ways()[place % 3])}" for place, (name, shade) in enumerate(some_rows(24))]
        book = read_book("\n".join(["eye 1 2 3"] + rows))
        for place, (name, shade) in enumerate(some_rows(24)):
            self.assertEqual(show(book.shade(name), ways()[place % 3]), show(shade, ways()[place % 3]))

    def test_no_deed_to_take_back(self):
        for text in ("eye 1 1 1", "eye 1 1 1\nsky 1/2 0 3/4", plain_text(24)):
            book = read_book(text)
            caught(NoBack, book.back)
            self.assertEqual(show_book(book), text)

    def test_deeds_on_what_was_read(self):
        book = read_book(plain_text(23))
        book.put("new", ONE)
        book.alter("new", lighter)
        book.drop("a")
        for deed in range(3):
            book.back()
        self.assertEqual(show_book(book), plain_text(23))
        caught(NoBack, book.back)

    def test_a_book_of_its_own_each_time(self):
        text = plain_text(3)
        one, other = read_book(text), read_book(text)
        one.drop("a")
        self.assertEqual(show_book(other), text)
        self.assertEqual(show_book(read_book(text)), text)

    def test_names_like_words_of_the_text(self):
        text = "eye 1 1 1\neye 1 1 1\ngrey grey 1/2\nturn turn 1 white 0 black 1/2\nwhite #ffffff\nblack 0 0 0"
        book = read_book(text)
        self.assertEqual(book.names(), ("eye", "grey", "turn", "white", "black"))
        self.assertEqual(str(book.shade("turn")), "1/2 1/2 0")

    def test_many_figures(self):
        rows = [(name, shade_at(Fraction(place, GREAT), Fraction(GREAT - place, GREAT), Fraction(1, GREAT + place)))
                for place, name in enumerate(some_names(24))]
        book = filled(rows, (3, 6, 1))
        self.assertEqual(read_book(show_book(book)), book)

    def test_a_told_shade_of_more_figures_than_python_reads_at_once(self):
        part = (1, GREAT)
        for deed in range(7):
            part = times(part, part)
        shade = lighter(ONE, part)
        self.assertGreater(shade.leaf[1], 10 ** 7000)
        book = filled([("long", shade), ("a", ONE)])
        self.assertEqual(read_book(show_book(book)), book)


class Refused(unittest.TestCase):
    def test_what_is_no_text(self):
        for thing in NO_TEXTS:
            with self.subTest(repr(thing)):
                self.assertEqual(caught(NoText, read_book, thing).row, 0)
                self.assertEqual(caught(NoText, read_book, text=thing).row, 0)

    def test_the_row_of_the_eye(self):
        for row in NO_EYE_ROWS:
            for rest in ("", "\nsky 1/2 0 3/4", "\nsky 1/2 0 3/4\nno", "\n", "\neye 1 1 1"):
                with self.subTest(repr(row + rest)):
                    self.assertEqual(caught(NoText, read_book, row + rest).row, 0)

    def test_a_row_that_is_not_so_written(self):
        for row in NO_PAGES:
            for many in (0, 1, 5, 23):
                for rest in ("", "\nlast 1/2 0 3/4", "\nno", "\n"):
                    with self.subTest(repr((row, many, rest))):
                        text = plain_text(many) + "\n" + row + rest
                        self.assertEqual(caught(NoText, read_book, text).row, many + 1)

    def test_a_line_end_at_the_end_or_at_the_begin(self):
        for many in range(25):
            self.assertEqual(caught(NoText, read_book, plain_text(many) + "\n").row, many + 1)
            self.assertEqual(caught(NoText, read_book, plain_text(many) + "\n\n").row, many + 1)
            self.assertEqual(caught(NoText, read_book, "\n" + plain_text(many)).row, 0)

    def test_an_empty_row_between(self):
        rows = plain_text(6).split("\n")
        for place in range(1, 7):
            text = "\n".join(rows[:place] + [""] + rows[place:])
            self.assertEqual(caught(NoText, read_book, text).row, place)

    def test_a_name_that_stands_ahead(self):
        for many in (1, 2, 12, 23):
            for name in some_names(many):
                for shade in ("1/2 0 3/4", "#8000bf", "0 0 0"):
                    text = plain_text(many) + f"\n{name} {shade}"
                    self.assertEqual(caught(NoText, read_book, text).row, many + 1)
                    self.assertEqual(caught(NoText, read_book, text + "\nfree 0 0 0\nno").row, many + 1)

    def test_a_row_too_many(self):
        self.assertEqual(len(read_book(plain_text(24))), 24)
        self.assertEqual(caught(NoText, read_book, plain_text(25)).row, 25)
        self.assertEqual(caught(NoText, read_book, plain_text(26)).row, 25)
        self.assertEqual(caught(NoText, read_book, plain_text(24) + "\nno").row, 25)
        self.assertEqual(caught(NoText, read_book, plain_text(24) + "\na 0 0 0").row, 25)

    def test_the_first_of_several(self):
        self.assertEqual(caught(NoText, read_book, "eye 1 1 1\na 0 0 0\na 0 0 0\nno\n").row, 2)
        self.assertEqual(caught(NoText, read_book, "eye 1 1 1\nno\na 0 0 0\na 0 0 0").row, 1)
        self.assertEqual(caught(NoText, read_book, "eye 1 1 0\nno\na 0 0 0\na 0 0 0").row, 0)
        rows = plain_text(26).split("\n")
        rows[20] = "no"
        self.assertEqual(caught(NoText, read_book, "\n".join(rows)).row, 20)

    def test_the_desks_form_is_no_text_of_a_book(self):
        self.assertEqual(caught(NoText, read_book, plain_text(2).replace("\n", "; ")).row, 0)


if __name__ == "__main__":
    unittest.main()
