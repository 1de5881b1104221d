"""Books as texts: a row for the eye, then a row for each name."""

from lightshares.books import MOST_NAMES, book_of, is_name, need_book
from lightshares.errors import NoText
from lightshares.fractions import is_number, number_in
from lightshares.nearness import is_eye
from lightshares.writing import read_by, ways


def show_book(book):
    """A Book as a text."""
    need_book(book)
    return str(book)


def eye_in(row):
    """The eye that a row shows, or None."""
    first, *words = row.split(" ")
    if first != "eye" or not all([is_number(word) for word in words]):
        return None
    eye = tuple([number_in(word) for word in words])
    return eye if is_eye(eye) else None


def page_in(row):
    """The name and the Shade that a row shows, in whichever way the Shade is written, or None."""
    name, blank, text = row.partition(" ")
    if not is_name(name):
        return None
    shade = read_by(text, ways())
    return None if shade is None else (name, shade)


def read_book(text):
    """The Book that a text shows, in which there is no deed to take back."""
    if not isinstance(text, str):
        raise NoText(0)
    first, *rows = text.split("\n")
    eye = eye_in(first)
    if eye is None:
        raise NoText(0)
    pages = {}
    for number, row in enumerate(rows, start=1):
        page = page_in(row)
        if page is None or page[0] in pages or number > MOST_NAMES:
            raise NoText(number)
        pages[page[0]] = page[1]
    return book_of(eye, pages)
