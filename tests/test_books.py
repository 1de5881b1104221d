import random
import unittest
from fractions import Fraction

from lightshares.blends import Blend
from lightshares.books import Book, is_name
from lightshares.deeds import darker, lighter, opposite, turned
from lightshares.errors import BookFull, NameStands, NoBack, NoEye, NoName, NoShade, NoWord
from lightshares.nearness import far
from lightshares.shades import Shade, shares_of
from lightshares.wheel import wheel_of
from things import A_ROW, BLACK, HOLDERS, NO_EYES, NO_SHADES, SOME_SHADES, WHITE, caught, filled

ONE = Shade((1, 2), (0, 1), (3, 4))
OTHER = Shade((1, 3), (1, 1), (0, 1))

NAMES = ["a", "z", "az", "sky", "ember", "abcdefghijkl", "zzzzzzzzzzzz", "none", "true", "eye"]
NO_NAMES = [
    None, True, False, 0, 1, 1000, "", " ", "A", "aA", "Sky", "sky ", " sky", "s ky", "sky\n", "\nsky", "sk\ny", "sky1",
    "1", "a-b", "a_b", "a.b", "`", "{", "a`", "a{", "abcdefghijklm", "z" * 13, "a" * 500, "\u00e4", "a\u0301", "\u0430",
    b"sky", b"", [], ["sky"], [["sky"]], (), ("sky",), ("a", "b"), {}, {"sky": 1}, {"sky"}, ONE, BLACK, object(), len,
    str, Book,
] + HOLDERS


def full_book():
    return filled([(chr(97 + place), SOME_SHADES[place * 5]) for place in range(24)], (3, 1, 2))


def ember_of(shade):
    return shade.ember


def is_bright(shade):
    return shade.leaf[0] * 2 > shade.leaf[1]


ASKED = [SOME_SHADES[0], SOME_SHADES[31], SOME_SHADES[77], WHITE]


def nearest_by_hand(rows, shade, eye):
    gaps = [(Fraction(*far(page, shade, eye)), name) for name, page in rows]
    return tuple(sorted([name for gap, name in gaps if gap == min(gaps)[0]]))


def told_by_hand(rows, eye):
    """All that a Book tells, reckoned from plain rows (NAME, SHADE)."""
    names = [name for name, shade in rows]
    by_key = [name for name, shade in sorted(rows, key=lambda row: row[1].ember)]
    gaps = {}
    for name, shade in rows[:4]:
        for other, page in rows[-4:]:
            gaps[name, other] = far(shade, page, eye)
    return {
        "len": len(rows), "truth": len(rows) > 0, "names": tuple(names), "turned": tuple(names[::-1]),
        "keyed": tuple(by_key), "keyed turned": tuple(by_key[::-1]),
        "those": tuple([name for name, shade in rows if is_bright(shade)]),
        "shades": {name: str(shade) for name, shade in rows},
        "apart": gaps, "called": [nearest_by_hand(rows, shade, eye) for shade in ASKED],
        "str": "\n".join(["eye {} {} {}".format(*eye)] + [f"{name} {shade}" for name, shade in rows]),
        "repr": f"Book({len(rows)})", "eye": eye,
    }


def told_by(book):
    """All that a Book tells, asked of itself."""
    names = book.names()
    gaps = {}
    for name in names[:4]:
        for other in names[-4:]:
            gaps[name, other] = book.apart(name, other)
    return {
        "len": len(book), "truth": bool(book), "names": names, "turned": book.names(about=True),
        "keyed": book.names(ember_of), "keyed turned": book.names(ember_of, True), "those": book.those(is_bright),
        "shades": {name: str(book.shade(name)) for name in names},
        "apart": gaps, "called": [book.called(shade) for shade in ASKED],
        "str": str(book), "repr": repr(book), "eye": book.eye,
    }


class Names(unittest.TestCase):
    def test_names_are(self):
        for name in NAMES + [chr(97 + place) for place in range(26)]:
            self.assertIs(is_name(name), True)
        self.assertIs(is_name(thing="sky"), True)

    def test_other_things_are_none(self):
        for thing in NO_NAMES:
            with self.subTest(repr(thing)):
                self.assertIs(is_name(thing), False)


class Eye(unittest.TestCase):
    def test_three_numbers(self):
        self.assertEqual(Book().eye, (1, 1, 1))
        self.assertEqual(Book(None).eye, (1, 1, 1))
        self.assertEqual(Book((3, 6, 1)).eye, (3, 6, 1))
        self.assertEqual(Book(eye=(99, 1, 99)).eye, (99, 1, 99))
        self.assertIs(type(Book().eye), tuple)

    def test_what_is_no_eye_is_refused(self):
        for thing in NO_EYES:
            with self.subTest(repr(thing)):
                self.assertIs(caught(NoEye, Book, thing).eye, thing)
                self.assertIs(caught(NoEye, Book, eye=thing).eye, thing)


class Empty(unittest.TestCase):
    def test_all_that_it_tells(self):
        for eye in ((1, 1, 1), (3, 6, 1)):
            book = Book(eye)
            self.assertEqual(told_by(book), told_by_hand([], eye))
            self.assertEqual(book.called(ONE), ())
            self.assertEqual(book.names(), ())
            self.assertEqual(book.names(ember_of), ())
            self.assertEqual(book.those(is_bright), ())
            self.assertIs(bool(book), False)
            self.assertEqual((str(book), repr(book)), ("eye {} {} {}".format(*eye), "Book(0)"))

    def test_nothing_is_to_be_taken_back(self):
        caught(NoBack, Book().back)


class Deeds(unittest.TestCase):
    def test_put(self):
        book = Book()
        self.assertIsNone(book.put("sky", ONE))
        self.assertIsNone(book.put(shade=OTHER, name="leaf"))
        self.assertEqual(told_by(book), told_by_hand([("sky", ONE), ("leaf", OTHER)], (1, 1, 1)))
        self.assertEqual(str(book), "eye 1 1 1\nsky 1/2 0 3/4\nleaf 1/3 1 0")

    def test_two_names_may_have_one_shade(self):
        book = filled([("sky", ONE), ("leaf", ONE)])
        self.assertEqual(book.called(BLACK), ("leaf", "sky"))

    def test_alter(self):
        book = filled([("sky", ONE), ("leaf", OTHER)])
        self.assertIsNone(book.alter("sky", opposite))
        self.assertIsNone(book.alter(deed=lambda shade: lighter(shade, (1, 3)), name="leaf"))
        rows = [("sky", opposite(ONE)), ("leaf", lighter(OTHER, (1, 3)))]
        self.assertEqual(told_by(book), told_by_hand(rows, (1, 1, 1)))

    def test_altered_to_the_same_is_a_deed_too(self):
        book = filled([("sky", ONE)])
        book.alter("sky", lambda shade: shade)
        book.back()
        self.assertEqual(book.names(), ("sky",))
        book.back()
        self.assertEqual(book.names(), ())

    def test_rename_stays_in_its_place(self):
        book = filled([("sky", ONE), ("leaf", OTHER), ("ember", WHITE)])
        self.assertIsNone(book.rename("leaf", "zzz"))
        self.assertEqual(book.names(), ("sky", "zzz", "ember"))
        self.assertIsNone(book.rename(new="aaa", name="sky"))
        rows = [("aaa", ONE), ("zzz", OTHER), ("ember", WHITE)]
        self.assertEqual(told_by(book), told_by_hand(rows, (1, 1, 1)))
        self.assertEqual(caught(NoName, book.shade, "leaf").name, "leaf")
        book.put("leaf", BLACK)
        self.assertEqual(book.names(), ("aaa", "zzz", "ember", "leaf"))

    def test_drop_and_put_in_again(self):
        book = filled([("sky", ONE), ("leaf", OTHER), ("ember", WHITE)])
        self.assertIsNone(book.drop("sky"))
        self.assertEqual(told_by(book), told_by_hand([("leaf", OTHER), ("ember", WHITE)], (1, 1, 1)))
        book.put("sky", ONE)
        self.assertEqual(book.names(), ("leaf", "ember", "sky"))
        self.assertIsNone(book.drop(name="ember"))
        self.assertEqual(book.names(), ("leaf", "sky"))

    def test_back_restores_place_and_shade(self):
        book = filled([("sky", ONE), ("leaf", OTHER), ("ember", WHITE)])
        ahead = told_by(book)
        for deed in (lambda: book.drop("sky"), lambda: book.rename("leaf", "zzz"), lambda: book.put("last", BLACK),
                     lambda: book.alter("ember", darker)):
            deed()
            self.assertNotEqual(told_by(book), ahead)
            self.assertIsNone(book.back())
            self.assertEqual(told_by(book), ahead)

    def test_what_was_taken_back_is_not_taken_back_again(self):
        book = filled([("sky", ONE), ("leaf", OTHER)])
        book.back()
        book.put("ember", WHITE)
        book.back()
        self.assertEqual(book.names(), ("sky",))
        book.back()
        self.assertEqual(book.names(), ())
        caught(NoBack, book.back)
        book.put("sky", OTHER)
        self.assertEqual(book.shade("sky"), OTHER)
        book.back()
        caught(NoBack, book.back)

    def test_each_book_holds_its_own(self):
        one, other = Book(), Book()
        one.put("sky", ONE)
        self.assertEqual((len(one), len(other)), (1, 0))
        caught(NoBack, other.back)


class Refused(unittest.TestCase):
    def unchanged(self, book, error, deed, /, *things, **named):
        ahead = told_by(book)
        refusal = caught(error, deed, *things, **named)
        self.assertEqual(told_by(book), ahead)
        return refusal

    def test_put_by_order(self):
        book, full = filled([("sky", ONE), ("leaf", OTHER)]), full_book()
        for thing in NO_NAMES:
            with self.subTest(repr(thing)):
                for shade in (ONE, None, "no"):
                    self.assertIs(self.unchanged(book, NoWord, book.put, thing, shade).word, thing)
                    self.assertIs(caught(NoWord, full.put, shade=shade, name=thing).word, thing)
        for thing in NO_SHADES + [Blend()]:
            with self.subTest(repr(thing)):
                self.assertIsNone(self.unchanged(book, NoShade, book.put, "new", thing).light)
                self.assertIsNone(self.unchanged(book, NoShade, book.put, "sky", thing).light)
                self.assertIsNone(caught(NoShade, full.put, "new", thing).light)
                self.assertIsNone(caught(NoShade, full.put, shade=thing, name="a").light)
        self.assertEqual(self.unchanged(book, NameStands, book.put, "sky", WHITE).name, "sky")
        self.assertEqual(self.unchanged(full, NameStands, full.put, "x", WHITE).name, "x")
        self.assertEqual(self.unchanged(full, BookFull, full.put, "new", WHITE).many, 24)

    def test_24_names_and_one_more(self):
        book = full_book()
        self.assertEqual(len(book), 24)
        self.assertEqual(self.unchanged(book, BookFull, book.put, "new", ONE).many, 24)
        book.rename("a", "new")
        book.alter("b", opposite)
        self.assertEqual(len(book), 24)
        book.drop("c")
        book.put("c", ONE)
        self.assertEqual((len(book), book.names()[-1]), (24, "c"))
        self.assertEqual(self.unchanged(book, BookFull, book.put, "more", ONE).many, 24)

    def test_names_that_do_not_stand(self):
        book = filled([("sky", ONE), ("leaf", OTHER)])
        for thing in NO_NAMES + ["ember", "skys", "sk"]:
            with self.subTest(repr(thing)):
                for error in (
                    self.unchanged(book, NoName, book.alter, thing, opposite),
                    self.unchanged(book, NoName, book.alter, deed=lambda shade: None, name=thing),
                    self.unchanged(book, NoName, book.rename, thing, "new"),
                    self.unchanged(book, NoName, book.rename, thing, None),
                    self.unchanged(book, NoName, book.rename, new="sky", name=thing),
                    self.unchanged(book, NoName, book.drop, thing),
                    self.unchanged(book, NoName, book.drop, name=thing),
                    caught(NoName, book.shade, thing),
                    caught(NoName, book.shade, name=thing),
                    caught(NoName, book.apart, thing, "sky"),
                    caught(NoName, book.apart, "sky", thing),
                    caught(NoName, book.apart, thing, "no"),
                    caught(NoName, book.apart, other=thing, name="leaf"),
                    caught(NoName, Book().shade, thing),
                ):
                    self.assertIs(error.name, thing)

    def test_rename_by_order(self):
        book = filled([("sky", ONE), ("leaf", OTHER)])
        for thing in NO_NAMES:
            with self.subTest(repr(thing)):
                self.assertIs(self.unchanged(book, NoWord, book.rename, "sky", thing).word, thing)
                self.assertIs(self.unchanged(book, NoWord, book.rename, new=thing, name="leaf").word, thing)
        self.assertEqual(self.unchanged(book, NameStands, book.rename, "sky", "leaf").name, "leaf")
        self.assertEqual(self.unchanged(book, NameStands, book.rename, "leaf", "sky").name, "sky")
        self.assertEqual(self.unchanged(book, NameStands, book.rename, "sky", "sky").name, "sky")

    def test_a_deed_that_tells_no_shade(self):
        book = filled([("sky", ONE), ("leaf", OTHER)])
        for thing in NO_SHADES + [Blend()]:
            with self.subTest(repr(thing)):
                self.assertIsNone(self.unchanged(book, NoShade, book.alter, "sky", lambda shade: thing).light)

    def test_called_of_what_is_no_shade(self):
        for book in (Book(), filled([("sky", ONE), ("leaf", OTHER)])):
            for thing in NO_SHADES + [Blend()]:
                with self.subTest(repr(thing)):
                    self.assertIsNone(caught(NoShade, book.called, thing).light)
                    self.assertIsNone(caught(NoShade, book.called, shade=thing).light)

    def test_what_is_refused_is_no_deed_to_take_back(self):
        book = filled([("sky", ONE)])
        caught(NameStands, book.put, "sky", OTHER)
        caught(NoShade, book.alter, "sky", lambda shade: None)
        caught(NameStands, book.rename, "sky", "sky")
        caught(NoName, book.drop, "leaf")
        book.back()
        self.assertEqual(len(book), 0)
        caught(NoBack, book.back)
        caught(NoBack, book.back)


class Runs(unittest.TestCase):
    """Long runs of deeds of every kind, held against plain rows."""

    def expected(self, rows, word, things):
        """The rows behind a deed, or the refusal of it."""
        names = [name for name, shade in rows]
        if word == "put":
            name, shade = things
            if not is_name(name):
                return NoWord
            if not isinstance(shade, Shade):
                return NoShade
            if name in names:
                return NameStands
            return BookFull if len(rows) == 24 else rows + [(name, shade)]
        if things[0] not in names:
            return NoName
        place = names.index(things[0])
        if word == "drop":
            return rows[:place] + rows[place + 1:]
        if word == "rename":
            if not is_name(things[1]):
                return NoWord
            changed = (things[1], rows[place][1])
            return NameStands if things[1] in names else rows[:place] + [changed] + rows[place + 1:]
        changed = things[1](rows[place][1])
        if not isinstance(changed, Shade):
            return NoShade
        return rows[:place] + [(things[0], changed)] + rows[place + 1:]

    def things_for(self, source, word, names):
        name = source.choice(names)
        if word == "put":
            return (name, source.choice(SOME_SHADES + [None, "1 1 1"] * 3))
        if word == "rename":
            return (name, source.choice(names))
        if word == "alter":
            return (name, source.choice([lighter, darker, opposite, turned, lambda shade: shade, lambda shade: 1]))
        return (name,)

    def run_of_deeds(self, seed, many, words):
        source = random.Random(seed)
        eye = source.choice([(1, 1, 1), (3, 6, 1), (99, 1, 50)])
        names = [chr(97 + place) * (1 + place % 12) for place in range(26)]
        names += ["aa", "ab", "ac", "ad", "ae", "", "A", None, 7]
        book, rows, past, seen = Book(eye), [], [], set()
        for each_time in range(many):
            self.assertEqual(told_by(book), told_by_hand(rows, eye))
            word = source.choice(words)
            if word == "back":
                if past:
                    self.assertIsNone(book.back())
                    rows = past.pop()
                else:
                    caught(NoBack, book.back)
                seen.add((word, bool(past)))
                continue
            things = self.things_for(source, word, names)
            told = self.expected(rows, word, things)
            deed = getattr(book, word)
            if isinstance(told, list):
                self.assertIsNone(deed(*things))
                past.append(rows)
                rows = told
                seen.add((word, None))
            else:
                caught(told, deed, *things)
                seen.add((word, told))
        self.assertEqual(told_by(book), told_by_hand(rows, eye))
        while past:
            rows = past.pop()
            book.back()
            self.assertEqual(told_by(book), told_by_hand(rows, eye))
        self.assertEqual((rows, len(book)), ([], 0))
        caught(NoBack, book.back)
        self.assertEqual(told_by(book), told_by_hand([], eye))
        return seen

    def test_all_kinds(self):
        seen = set()
        for seed in range(6):
            seen |= self.run_of_deeds(seed, 150, ["put"] * 4 + ["alter", "rename", "drop", "back"])
        for seed in range(6, 8):
            seen |= self.run_of_deeds(seed, 200, ["put"] * 40 + ["alter", "rename", "drop", "back"])
        for row in (("put", NoWord), ("put", NoShade), ("put", NameStands), ("put", BookFull), ("put", None),
                    ("alter", NoName), ("alter", NoShade), ("alter", None), ("rename", NoName), ("rename", NoWord),
                    ("rename", NameStands), ("rename", None), ("drop", NoName), ("drop", None), ("back", True)):
            self.assertIn(row, seen)


class Told(unittest.TestCase):
    ROWS = [
        ("sky", Shade((1, 2), (0, 1), (3, 4))), ("leaf", Shade((1, 3), (1, 1), (0, 1))),
        ("rust", Shade((1, 2), (1, 4), (0, 1))), ("ash", Shade((1, 3), (1, 3), (1, 3))), ("ink", BLACK),
    ]

    def test_kinds(self):
        book = filled(self.ROWS)
        for told in (book.names(), book.names(ember_of), book.names(about=True), book.those(is_bright),
                     book.called(ONE), book.apart("sky", "leaf"), book.eye):
            self.assertIs(type(told), tuple)
        self.assertIsInstance(book.shade("sky"), Shade)

    def test_by_key_with_ties(self):
        book = filled(self.ROWS)
        self.assertEqual(book.names(), ("sky", "leaf", "rust", "ash", "ink"))
        self.assertEqual(book.names(None), ("sky", "leaf", "rust", "ash", "ink"))
        self.assertEqual(book.names(None, False), ("sky", "leaf", "rust", "ash", "ink"))
        self.assertEqual(book.names(None, True), ("ink", "ash", "rust", "leaf", "sky"))
        # As tuples (0, 1) < (1, 2) < (1, 3).
        self.assertEqual(book.names(ember_of), ("ink", "sky", "rust", "leaf", "ash"))
        self.assertEqual(book.names(ember_of, False), ("ink", "sky", "rust", "leaf", "ash"))
        self.assertEqual(book.names(ember_of, True), ("ash", "leaf", "rust", "sky", "ink"))
        self.assertEqual(book.names(about=True, key=ember_of), ("ash", "leaf", "rust", "sky", "ink"))
        self.assertEqual(book.names(key=len), ("ink", "sky", "leaf", "rust", "ash"))
        self.assertEqual(book.names(len, True), ("ash", "rust", "leaf", "sky", "ink"))
        self.assertEqual(book.names(lambda shade: 0), book.names())
        self.assertEqual(book.names(lambda shade: 0, True), book.names(about=True))
        # '0 0 0' < '1/2 0 3/4' < '1/2 1/4 0' < '1/3 1 0' < '1/3 1/3 1/3', a blank being less than a stroke.
        self.assertEqual(book.names(str), ("ink", "sky", "rust", "leaf", "ash"))

    def test_by_many_keys(self):
        rows = [(chr(97 + place) * 3, SOME_SHADES[(place * 37) % 125]) for place in range(24)]
        book = filled(rows)
        for key in (len, str, repr, shares_of, lambda shade: -len(shade), lambda shade: wheel_of(shade)[1],
                    lambda shade: shade.sky == (1, 2), lambda shade: [len(shade), shade.leaf]):
            names = [name for name, shade in sorted(rows, key=lambda row: key(row[1]))]
            self.assertEqual(book.names(key), tuple(names))
            self.assertEqual(book.names(key, True), tuple(names[::-1]))

    def test_those(self):
        book = filled(self.ROWS)
        self.assertEqual(book.those(lambda shade: len(shade) == 2), ("sky", "leaf", "rust"))
        self.assertEqual(book.those(ask=lambda shade: shade == BLACK), ("ink",))
        self.assertEqual(book.those(lambda shade: True), book.names())
        self.assertEqual(book.those(lambda shade: False), ())

    def test_apart(self):
        for eye in ((1, 1, 1), (3, 6, 1)):
            book = filled(self.ROWS, eye)
            for name, shade in self.ROWS:
                for other, page in self.ROWS:
                    self.assertEqual(book.apart(name, other), far(shade, page, eye))
            self.assertEqual(book.apart(other="sky", name="leaf"), far(ONE, OTHER, eye))
            self.assertEqual(book.apart("sky", "sky"), (0, 1))

    def test_nearest_names_with_ties(self):
        half = Shade((1, 2), (1, 2), (1, 2))
        book = filled([("white", WHITE), ("black", BLACK), ("ash", half), ("ashtoo", half)])
        self.assertEqual(book.called(half), ("ash", "ashtoo"))
        self.assertEqual(book.called(Shade((1, 4), (1, 4), (1, 4))), ("ash", "ashtoo", "black"))
        self.assertEqual(book.called(shade=Shade((3, 4), (3, 4), (3, 4))), ("ash", "ashtoo", "white"))
        self.assertEqual(book.called(Shade((3, 4), (3, 4), (4, 5))), ("white",))
        self.assertEqual(book.called(BLACK), ("black",))
        book.drop("ash")
        book.drop("ashtoo")
        self.assertEqual(book.called(half), ("black", "white"))

    def test_nearest_by_worth_not_as_tuples(self):
        # As tuples (1, 16) < (1, 25) < (1, 4), by their worth 1/25 is the least.
        book = filled([("a", Shade((1, 2), (0, 1), (0, 1))), ("b", Shade((1, 5), (0, 1), (0, 1))),
                        ("c", Shade((0, 1), (1, 4), (0, 1)))])
        self.assertEqual(book.called(BLACK), ("b",))

    def test_nearest_by_its_eye(self):
        rows = [("ember", Shade((1, 2), (0, 1), (0, 1))), ("leaf", Shade((0, 1), (1, 2), (0, 1))),
                ("sky", Shade((0, 1), (0, 1), (1, 2)))]
        self.assertEqual(filled(rows).called(BLACK), ("ember", "leaf", "sky"))
        self.assertEqual(filled(rows, (2, 1, 1)).called(BLACK), ("leaf", "sky"))
        self.assertEqual(filled(rows, (2, 3, 1)).called(BLACK), ("sky",))
        self.assertEqual(filled(rows, (1, 2, 99)).called(BLACK), ("ember",))

    def test_nearest_of_any(self):
        rows = [(chr(97 + place), SOME_SHADES[(place * 37) % 125]) for place in range(24)]
        for eye in ((1, 1, 1), (3, 6, 1), (99, 1, 1)):
            book = filled(rows, eye)
            for shade in SOME_SHADES:
                self.assertEqual(book.called(shade), nearest_by_hand(rows, shade, eye))

    def test_what_was_told_stays_when_the_book_goes_on(self):
        book = filled(self.ROWS)
        told = (book.names(), book.called(ONE), book.shade("sky"), book.those(is_bright))
        book.alter("sky", opposite)
        book.drop("leaf")
        self.assertEqual(told, (("sky", "leaf", "rust", "ash", "ink"), ("sky",), ONE, ("leaf",)))

    def test_str_and_repr(self):
        book = filled(self.ROWS, (3, 6, 1))
        rows = ["eye 3 6 1", "sky 1/2 0 3/4", "leaf 1/3 1 0", "rust 1/2 1/4 0", "ash 1/3 1/3 1/3", "ink 0 0 0"]
        self.assertEqual(str(book), "\n".join(rows))
        self.assertEqual(repr(book), "Book(5)")
        self.assertEqual(len(book), 5)
        self.assertIs(bool(filled([("ink", BLACK)])), True)
        self.assertEqual(repr(full_book()), "Book(24)")


class Alike(unittest.TestCase):
    ROWS = [("sky", ONE), ("leaf", OTHER), ("ink", BLACK)]

    def test_in_whatever_turn(self):
        book = filled(self.ROWS, (3, 6, 1))
        for other in (filled(self.ROWS, (3, 6, 1)), filled(self.ROWS[::-1], (3, 6, 1)), book):
            self.assertIs(book == other, True)
            self.assertIs(book != other, False)
        self.assertIs(Book() == Book((1, 1, 1)), True)

    def test_whatever_was_done_ahead(self):
        book = filled([("leaf", WHITE), ("night", BLACK), ("gone", ONE), ("sky", ONE)])
        book.alter("leaf", lambda shade: OTHER)
        book.rename("night", "ink")
        self.assertIs(book == filled(self.ROWS), False)
        book.drop("gone")
        self.assertIs(book == filled(self.ROWS), True)
        book.back()
        self.assertIs(book == filled(self.ROWS), False)

    def test_unlike(self):
        book = filled(self.ROWS)
        for other in (Book(), filled(self.ROWS[:2]), filled(self.ROWS, (1, 1, 2)),
                      filled(self.ROWS + [("more", ONE)]),
                      filled([("sky", ONE), ("leaf", OTHER), ("ash", BLACK)]),
                      filled([("sky", OTHER), ("leaf", ONE), ("ink", BLACK)]),
                      filled([("sky", ONE), ("leaf", OTHER), ("ink", WHITE)])):
            self.assertIs(book == other, False)
            self.assertIs(other == book, False)
            self.assertIs(book != other, True)
        self.assertIs(Book() == Book((1, 1, 2)), False)

    def test_things_of_other_kinds_are_not_alike(self):
        for book in (Book((7, 7, 7)), filled(self.ROWS)):
            for thing in NO_SHADES + HOLDERS + [ONE, A_ROW, str(book), len(book), {"sky": ONE}, (book,), [book]]:
                with self.subTest(repr(thing)):
                    self.assertIs(book == thing, False)
                    self.assertIs(book != thing, True)
                    self.assertIs(thing == book, False)
                    self.assertIs(thing != book, True)


if __name__ == "__main__":
    unittest.main()
