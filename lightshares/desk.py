"""The desk: a Book that is kept by rows of words.

Each row's first word has a def here. It is told the Book and the words behind, and tells the answer; None where the
words aren't so written, which it finds out ahead of asking the Book anything.
"""

from lightshares.books import Book, is_name
from lightshares.booktexts import show_book
from lightshares.checker import holds
from lightshares.crowds import crowds
from lightshares.deeds import done
from lightshares.errors import NoRow
from lightshares.fractions import ZERO, fraction_in, is_number, number_in, written
from lightshares.mixing import mix
from lightshares.papers import paper_called
from lightshares.rows import Row, steps_between
from lightshares.writing import read_by, show, ways

OK = "ok"
NONE = "none"
MOST_PAIRS = 8
MOST_WEIGHT_FIGURES = 9
MOST_PART_FIGURES = 40


def are_names(words, many):
    """Whether words are so many names."""
    return len(words) == many and all([is_name(word) for word in words])


def shade_in(words):
    """The Shade that words show, in whichever way it is written, or None."""
    return read_by(" ".join(words), ways())


def part_in(word):
    """The fraction from 0 on, of numbers that aren't too long, that a word shows, or None."""
    if max([len(number) for number in word.split("/")]) > MOST_PART_FIGURES:
        return None
    return fraction_in(word)


def by_in(word):
    """The fraction that a word shows, with a - ahead where it is below 0, or None."""
    if not word.startswith("-"):
        return part_in(word)
    part = part_in(word[1:])
    if part is None or part == ZERO:
        return None
    return (-part[0], part[1])


def deed_in(words):
    """The deed by name that a word shows, alone or with BY behind it, or None; it may be none that there is."""
    if len(words) == 1:
        return (words[0],)
    by = by_in(words[1])
    if by is None:
        return None
    if words[0] == "turned" and by[1] == 1:
        return (words[0], by[0])
    return (words[0], by)


def way_in(words):
    """The two names and the LIMIT that words show, or None."""
    if len(words) != 3 or not are_names(words[:2], 2):
        return None
    limit = part_in(words[2])
    return None if limit is None else (words[0], words[1], limit)


def listed(names):
    """Names with blanks between, or a word for none."""
    return NONE if len(names) == 0 else " ".join(names)


def say_put(book, words):
    """Put a name in."""
    shade = shade_in(words[1:])
    if not are_names(words[:1], 1) or shade is None:
        return None
    book.put(words[0], shade)
    return OK


def say_drop(book, words):
    """Take a name out."""
    if not are_names(words, 1):
        return None
    book.drop(words[0])
    return OK


def say_rename(book, words):
    """Give a name's Shade and place to a new name."""
    if not are_names(words, 2):
        return None
    book.rename(words[0], words[1])
    return OK


def say_back(book, words):
    """Take back the last deed."""
    if len(words) != 0:
        return None
    book.back()
    return OK


def say_do(book, words):
    """Alter a name by a deed by name."""
    if len(words) not in (2, 3) or not is_name(words[0]):
        return None
    deed = deed_in(words[1:])
    if deed is None:
        return None
    book.alter(words[0], lambda shade: done(shade, (deed,)))
    return OK


def say_shade(book, words):
    """A name's Shade, written in a way."""
    if len(words) != 2 or not is_name(words[0]):
        return None
    return show(book.shade(words[0]), words[1])


def say_called(book, words):
    """The nearest names to a Shade."""
    shade = shade_in(words)
    return None if shade is None else listed(book.called(shade))


def say_apart(book, words):
    """How far two names are."""
    return written(book.apart(words[0], words[1])) if are_names(words, 2) else None


def say_steps(book, words):
    """How many steps lead from a name to another one."""
    asked = way_in(words)
    if asked is None:
        return None
    one, other, limit = asked
    return str(steps_between(book.shade(one), book.shade(other), limit, book.eye))


def say_row(book, words):
    """The Row from a name to another one."""
    asked = way_in(words)
    if asked is None:
        return None
    one, other, limit = asked
    return str(Row(book.shade(one), book.shade(other), limit, book.eye))


def say_mix(book, words):
    """The mix of names by weights."""
    names, weights = words[::2], words[1::2]
    if not 1 <= len(weights) <= MOST_PAIRS or not are_names(names, len(weights)):
        return None
    if not all([is_number(weight) and len(weight) <= MOST_WEIGHT_FIGURES for weight in weights]):
        return None
    shades = tuple([book.shade(name) for name in names])
    return str(mix(shades, tuple([number_in(weight) for weight in weights])))


def say_near(book, words):
    """The crowds of names by a LIMIT."""
    limit = part_in(words[0]) if len(words) == 1 else None
    if limit is None:
        return None
    told = [" ".join(crowd) for crowd in crowds(book, limit)]
    return NONE if len(told) == 0 else " / ".join(told)


def say_book(book, words):
    """The Book's text in one row."""
    return show_book(book).replace("\n", "; ") if len(words) == 0 else None


def say_names(book, words):
    """All names as they were put in."""
    return listed(book.names()) if len(words) == 0 else None


def say_paper(book, words):
    """Whether the checker takes the house's paper of the nearest names."""
    shade = shade_in(words)
    if shade is None:
        return None
    claim, paper = paper_called(book, shade)
    return "holds" if holds(claim, paper) else "no"


ANSWERS = {
    "put": say_put, "drop": say_drop, "rename": say_rename, "back": say_back, "do": say_do, "shade": say_shade,
    "called": say_called, "apart": say_apart, "steps": say_steps, "row": say_row, "mix": say_mix, "near": say_near,
    "book": say_book, "names": say_names, "paper": say_paper,
}


class Desk:
    """A Book that is kept by rows of words, each answered with a text."""

    def __init__(self, eye=None):
        self.book = Book(eye)

    def say(self, row):
        """The answer to a row of words."""
        if not isinstance(row, str):
            raise NoRow(row)
        first, *words = row.split(" ")
        if first not in ANSWERS or "" in words:
            raise NoRow(row)
        answer = ANSWERS[first]
        told = answer(self.book, words)
        if told is None:
            raise NoRow(row)
        return told
