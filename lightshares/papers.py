"""The house's papers: for each question the claim that is true, with the paper by which the checker takes it."""

from lightshares.books import need_book
from lightshares.lights import make
from lightshares.nearness import eye_of
from lightshares.prints import USUAL_GRADE
from lightshares.rows import steps_between
from lightshares.shades import shares_of
from lightshares.sure import sure_names
from lightshares.walks import walk


def plain_lights(lights):
    """Lights as tuples of shares."""
    return tuple([shares_of(light) for light in lights])


def named_in(book):
    """The names of a Book, rising, each with its shares."""
    return tuple([(name, shares_of(book.shade(name))) for name in sorted(book.names())])


def paper_lights(lights, shade, eye=None):
    """That lights make a Shade, or what they make nearest to it, by shares."""
    shares, near, line = make(lights, shade, eye)
    rows = plain_lights(lights)
    if line is None:
        return (("made", rows, shares_of(shade)), shares)
    return (("near", rows, shares_of(shade), eye_of(eye), shares_of(near)), shares)


def paper_line(lights, shade):
    """That lights don't make a Shade, by a line; None where they do."""
    line = make(lights, shade)[2]
    if line is None:
        return None
    return (("out", plain_lights(lights), shares_of(shade)), line)


def paper_called(book, shade):
    """Which names are the nearest to a Shade."""
    need_book(book)
    names = book.called(shade)
    return (("called", named_in(book), shares_of(shade), book.eye, names), None)


def paper_steps(shade, other, limit, eye=None):
    """How many steps lead from one Shade to another."""
    steps = steps_between(shade, other, limit, eye)
    return (("steps", shares_of(shade), shares_of(other), limit, eye_of(eye), steps), None)


def paper_walk(book, shade, other):
    """Which names are the nearest where on the way from one Shade to another."""
    rows = walk(book, shade, other)
    return (("walk", named_in(book), shares_of(shade), shares_of(other), book.eye, rows), None)


def paper_sure(book, steps, grade=USUAL_GRADE):
    """Which names are sure of three steps."""
    names = sure_names(book, steps, grade)
    return (("sure", named_in(book), book.eye, steps, grade, names), None)
