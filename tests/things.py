"""What several tests share: things of other kinds, and shades to try out."""

from fractions import Fraction
from itertools import product

from lightshares.blends import Blend
from lightshares.books import Book
from lightshares.rows import Row
from lightshares.shades import Shade


def a_blend():
    blend = Blend()
    blend.put(Shade((1, 2), (0, 1), (3, 4)), 3)
    return blend


def a_book():
    book = Book()
    book.put("name", Shade((1, 2), (0, 1), (3, 4)))
    return book


A_ROW = Row(Shade((1, 2), (0, 1), (3, 4)), Shade((1, 2), (1, 1), (3, 4)), (1, 4))

# What holds Shades, empty and not.
HOLDERS = [Blend(), a_blend(), Book(), a_book(), A_ROW]

NO_FRACTIONS = [
    None, True, False, 0, 1, -1, "", "1/2", "1", b"1", [], [1, 2], (), (1,), (1, 2, 3), {}, {1: 2},
    (True, 1), (False, 1), (1, True), (0, True), (2, 4), (0, 2), (3, 3), (-2, 4), (10, 5), (1, 0), (0, 0),
    (1, -2), (-1, -2), (0, -1), ("1", 2), (1, "2"), (None, 1), (1, None), ((1, 2), 1), (1, (1, 1)), [(1, 2)],
    ((1, 2),), ([1], [2]), object(), len, Shade, Shade((1, 2), (0, 1), (1, 1)), ValueError("1"),
    (A_ROW, Book()),
] + HOLDERS

OTHER_FRACTIONS = [(-1, 2), (3, 2), (-1, 1), (2, 1), (10 ** 59 + 1, 10 ** 59)]

NO_SHARES = NO_FRACTIONS + OTHER_FRACTIONS

NO_SHADES = [
    None, True, False, 0, 1, "", "1/2 0 3/4", b"", [], (), {}, ((1, 2), (0, 1), (3, 4)), [(1, 2), (0, 1), (3, 4)],
    (Shade((1, 2), (0, 1), (3, 4)),), [Shade((1, 2), (0, 1), (3, 4))], Shade, object(), len,
    Book(), a_book(), A_ROW, (a_book(), A_ROW),
]

SOME_SHARES = [(0, 1), (1, 3), (1, 2), (5, 7), (1, 1)]

SOME_SHADES = [Shade(*shares) for shares in product(SOME_SHARES, repeat=3)]

NO_EYES = [
    True, False, 0, 1, 111, "", "1 1 1", "111", b"111", [], [1, 1, 1], (), (1,), (1, 1), (1, 1, 1, 1), {},
    {1: 1, 2: 1, 3: 1}, (0, 1, 1), (1, 0, 1), (1, 1, 0), (100, 1, 1), (1, 100, 1), (1, 1, 100), (-1, 1, 1), (1, 1, -1),
    (True, 1, 1), (1, True, 1), (1, 1, True), (1, 1, None), (None, None, None), ("1", 1, 1), (1, (1, 1), 1),
    ((1, 1), (1, 1), (1, 1)), ((1, 1, 1),), (1, 1, 10 ** 59), SOME_SHADES[5], (SOME_SHADES[5],) * 3, object(), len,
    Shade,
] + HOLDERS

NO_LIMITS = NO_FRACTIONS + [
    (0, 1), (-1, 1), (-1, 1000), (1, 1001), (999, 1000000), (10 ** 56, 10 ** 59 + 1), (1001, 1), (1000001, 1000),
    (10 ** 59, 1), (1, 10 ** 59),
]

BLACK = Shade((0, 1), (0, 1), (0, 1))
WHITE = Shade((1, 1), (1, 1), (1, 1))

NO_BOOKS = [thing for thing in NO_SHADES + HOLDERS if not isinstance(thing, Book)]
NO_BOOKS += [BLACK, WHITE, SOME_SHADES[7], (Book(),), [Book()], Book, "eye 1 1 1"]

NO_WHOLES = [
    None, True, False, "", "1", "255", b"1", [], [1], (), (1,), (1, 1), {}, {1: 1}, (255, 1), object(), len, Shade,
    SOME_SHADES[7], BLACK,
] + HOLDERS
NO_GRADES = NO_WHOLES + [0, -1, 1001, 1002, 10 ** 59, -10 ** 59]


def no_steps(grade):
    """Things that are no step of a grade."""
    return NO_WHOLES + [-1, grade + 1, grade + 2, 10 ** 59, -10 ** 59]


def as_tuple(value):
    """A Fraction of Python's as a fraction of the program's."""
    return (value.numerator, value.denominator)


def shade_at(*shares):
    """The Shade of three shares that Python's Fraction takes."""
    return Shade(*[as_tuple(Fraction(share)) for share in shares])


def filled(rows, eye=None):
    """A Book into which rows (NAME, SHADE) were put."""
    book = Book(eye)
    for name, shade in rows:
        book.put(name, shade)
    return book


def caught(error, deed, /, *things, **named):
    """The refusal of this very class that the deed raises."""
    try:
        told = deed(*things, **named)
    except error as refusal:
        if type(refusal) is not error:
            raise AssertionError(f"{type(refusal)} instead of {error}")
        return refusal
    raise AssertionError(f"{error} was not raised; told was {told!r}")
