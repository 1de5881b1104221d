"""Crowds: which names of a Book are too near to one another."""

from lightshares.books import book_of, need_book
from lightshares.fractions import less
from lightshares.nearness import need_limit


def pairs_near(book, limit):
    """All pairs of names that are less than LIMIT far, rising, the lesser name first in each."""
    need_book(book)
    need_limit(limit)
    names = sorted(book.names())
    pairs = [(one, other) for place, one in enumerate(names) for other in names[place + 1:]]
    return tuple([(one, other) for one, other in pairs if less(book.apart(one, other), limit)])


def linked(groups, pair):
    """The groups of names, those that hold a name of the pair made one."""
    met = [group for group in groups if pair[0] in group or pair[1] in group]
    rest = [group for group in groups if group not in met]
    return rest + [[name for group in met for name in group]]


def crowds(book, limit):
    """The names in crowds: a chain of pairs that are too near leads from each to each other one of its crowd."""
    pairs = pairs_near(book, limit)
    groups = [[name] for name in book.names()]
    for pair in pairs:
        groups = linked(groups, pair)
    return tuple(sorted([tuple(sorted(group)) for group in groups]))


def thinned(book, limit):
    """A new Book in which, as they were put in, each name stays that isn't too near to one that stays."""
    need_book(book)
    need_limit(limit)
    stay = []
    for name in book.names():
        if not any([less(book.apart(name, other), limit) for other in stay]):
            stay.append(name)
    return book_of(book.eye, {name: book.shade(name) for name in stay})
