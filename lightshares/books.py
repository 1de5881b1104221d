"""Books: Shades by name, with deeds that can be taken back."""

from lightshares.errors import BookFull, NameStands, NoBack, NoName, NoWord
from lightshares.fractions import least_of, less
from lightshares.nearness import eye_of, far, gap_between
from lightshares.shades import need_shade

MOST_NAMES = 24
MOST_LETTERS = 12


def is_name(thing):
    """Whether a thing of any kind is a text of one to twelve small letters."""
    if not isinstance(thing, str) or not 1 <= len(thing) <= MOST_LETTERS:
        return False
    return all(["a" <= sign <= "z" for sign in thing])


def need_word(thing):
    """Refuse what can't be a name."""
    if not is_name(thing):
        raise NoWord(thing)


class Book:
    """Names with a Shade each, in the order in which they were put in, and an eye that sees how far they are.

    Its pages are never changed but exchanged for new ones, so that those ahead of each deed can be kept.
    """

    def __init__(self, eye=None):
        self.eye = eye_of(eye)
        self.pages = {}
        self.past = []

    def turn_to(self, pages):
        """Do a deed: from now on these pages are the Book's."""
        self.past.append(self.pages)
        self.pages = pages

    def need_name(self, name):
        """Refuse what doesn't stand, of whatever kind it is."""
        if not isinstance(name, str) or name not in self.pages:
            raise NoName(name)

    def need_free(self, name):
        """Refuse a name that stands."""
        if name in self.pages:
            raise NameStands(name)

    def put(self, name, shade):
        """Put a name in, with its Shade."""
        need_word(name)
        need_shade(shade)
        self.need_free(name)
        if len(self.pages) >= MOST_NAMES:
            raise BookFull(MOST_NAMES)
        pages = dict(self.pages)
        pages[name] = shade
        self.turn_to(pages)

    def alter(self, name, deed):
        """Give a name the Shade that a deed of your own makes of its Shade."""
        changed = deed(self.shade(name))
        need_shade(changed)
        pages = dict(self.pages)
        pages[name] = changed
        self.turn_to(pages)

    def rename(self, name, new):
        """Give a name's Shade and place to a new name."""
        self.need_name(name)
        need_word(new)
        self.need_free(new)
        self.turn_to({new if old == name else old: shade for old, shade in self.pages.items()})

    def drop(self, name):
        """Take a name out."""
        self.need_name(name)
        pages = dict(self.pages)
        del pages[name]
        self.turn_to(pages)

    def back(self):
        """Take back the last deed that isn't taken back."""
        if len(self.past) == 0:
            raise NoBack("no deed is left that could be taken back")
        self.pages = self.past.pop()

    def shade(self, name):
        """The Shade of a name."""
        self.need_name(name)
        return self.pages[name]

    def names(self, key=None, about=False):
        """The names as they were put in, or by what KEY tells of their Shades, turned about or not."""
        told = list(self.pages)
        if key is not None:
            told = sorted(told, key=lambda name: key(self.pages[name]))
        if about is True:
            told = told[::-1]
        return tuple(told)

    def those(self, ask):
        """The names of whose Shades ASK tells True, as they were put in."""
        return tuple([name for name, shade in self.pages.items() if ask(shade) is True])

    def apart(self, name, other):
        """How far two names are."""
        return far(self.shade(name), self.shade(other), self.eye)

    def called(self, shade):
        """The nearest names to a Shade, rising, with all ties."""
        need_shade(shade)
        gaps = {name: gap_between(page, shade, self.eye) for name, page in self.pages.items()}
        least = least_of(list(gaps.values()))
        return tuple(sorted([name for name, gap in gaps.items() if not less(least, gap)]))

    def __eq__(self, other):
        return isinstance(other, Book) and self.eye == other.eye and self.pages == other.pages

    def __len__(self):
        return len(self.pages)

    def __str__(self):
        return "\n".join(text_rows(self))

    def __repr__(self):
        return f"Book({len(self.pages)})"


def text_rows(book):
    """The rows of a Book's text: its eye, then each name with its shares."""
    eye = " ".join([str(many) for many in book.eye])
    return [f"eye {eye}"] + [f"{name} {str(book.shade(name))}" for name in book.names()]


def book_of(eye, pages):
    """A Book of these names with their Shades, in which there is no deed to take back."""
    book = Book(eye)
    book.pages = dict(pages)
    return book


def need_book(thing):
    """Refuse what is no Book."""
    if not isinstance(thing, Book):
        raise NoName(None)
