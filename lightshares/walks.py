"""Walks: the way from one Shade to another, and which names are the nearest along it."""

from lightshares.books import need_book
from lightshares.errors import NoPart
from lightshares.fractions import ONE, ZERO, less, lowest
from lightshares.nearness import gap_between
from lightshares.rows import part_way
from lightshares.shades import is_share, need_shade


def between(shade, other, part):
    """The Shade at this part of the way from one Shade to another."""
    need_shade(shade)
    need_shade(other)
    if not is_share(part):
        raise NoPart(part)
    return part_way(shade, other, part)


def how_much_more(ends, others):
    """How much farther one name is than another at both ends of the way, over a bottom that both share."""
    tops = []
    bottoms = []
    for one, other in zip(ends, others):
        tops.append(one[0] * other[1] - other[0] * one[1])
        bottoms.append(one[1] * other[1])
    return (tops[0] * bottoms[1], tops[1] * bottoms[0])


def stretch_among(ends, rivals):
    """The part of the way, from where to where, on which a name is no farther than its rivals, or None.

    Told are how far the name is, and each of its rivals, at the two ends of the way. How much farther the one
    is than the other grows evenly between them, since what isn't even of it is the same for all names.
    """
    low, high = ZERO, ONE
    for others in rivals:
        first, last = how_much_more(ends, others)
        if first == last and first > 0:
            return None
        if first < last and less((-first, last - first), high):
            high = (-first, last - first)
        if first > last and less(low, (first, first - last)):
            low = (first, first - last)
    if less(high, low):
        return None
    return (lowest(low[0], low[1]), lowest(high[0], high[1]))


def goes_ahead(one, other):
    """Whether the first of two unlike rows (FROM, TO, NAME) is the lesser, fractions by their worth."""
    for place in (0, 1):
        if one[place] != other[place]:
            return less(one[place], other[place])
    return one[2] < other[2]


def walk(book, shade, other):
    """The rising rows (FROM, TO, NAME) of the names that are among the nearest somewhere on the way."""
    need_book(book)
    need_shade(shade)
    need_shade(other)
    ends = {}
    for name in book.names():
        page = book.shade(name)
        ends[name] = (gap_between(shade, page, book.eye), gap_between(other, page, book.eye))
    rows = []
    for name in ends:
        stretch = stretch_among(ends[name], list(ends.values()))
        if stretch is not None:
            rows.append((stretch[0], stretch[1], name))
    return tuple(sorted(rows, key=lambda row: len([one for one in rows if goes_ahead(one, row)])))
