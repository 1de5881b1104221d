import random
import unittest
from fractions import Fraction

from lightshares.desk import Desk
from lightshares.errors import (
    BookError, BookFull, MixError, NameStands, NoBack, NoDeed, NoEye, NoLimit, NoName, NoRow, NoWay, NoWeights,
    ShadeError
)
from plain import fewest_steps, gap, nearest
from things import A_ROW, BLACK, HOLDERS, NO_EYES, SOME_SHADES, as_tuple, caught

NO_TEXTS = [
    None, True, False, 0, 1, b"names", b"", [], ["names"], (), ("names",), ("put", "a", "0 0 0"), {}, {"names": 1},
    BLACK,
    SOME_SHADES[7], object(), len, str, Desk, Desk(), A_ROW,
] + HOLDERS

# Each row of the interface once, all answered by a desk that was told the first ones.
PUTS = ["put plum 1/2 0 3/4", "put moss #33ff00", "put mist grey 2/3", "put rust turn 14/3 white 0 black 1/4"]
ASKED = {
    "shade plum shares": "1/2 0 3/4",
    "shade plum wheel": "turn 14/3 white 0 black 1/4",
    "shade plum print": "#8000bf",
    "shade moss shares": "1/5 1 0",
    "shade mist wheel": "grey 2/3",
    "called 1/2 0 3/4": "plum rust",
    "called #ffffff": "mist",
    "called grey 1/2": "mist",
    "called turn 2 white 0 black 0": "moss",
    "apart plum moss": "661/400",
    "apart plum rust": "0",
    "apart mist mist": "0",
    "steps plum moss 1/2": "2",
    "steps moss plum 1": "2",
    "steps moss plum 2": "1",
    "steps plum rust 1/1000": "0",
    "row plum moss 1/2": "1/2 0 3/4 > 7/20 1/2 3/8 > 1/5 1 0",
    "row plum rust 1/2": "1/2 0 3/4",
    "mix plum 1": "1/2 0 3/4",
    "mix plum 1 mist 2": "11/18 4/9 25/36",
    "mix plum 1 plum 1 moss 0": "1/2 0 3/4",
    "mix plum 1000000 moss 0 mist 0 rust 0 plum 0 moss 0 mist 0 rust 999999": "1/2 0 3/4",
    "near 1/1000": "mist / moss / plum rust",
    "near 1000": "mist moss plum rust",
    "near 23/48": "mist / moss / plum rust",
    "near 1/2": "mist plum rust / moss",
    "book": "eye 1 1 1; plum 1/2 0 3/4; moss 1/5 1 0; mist 2/3 2/3 2/3; rust 1/2 0 3/4",
    "names": "plum moss mist rust",
    "paper 0 0 0": "holds",
    "paper #8000bf": "holds",
    "paper grey 1/3": "holds",
    "paper turn 1/2 white 1/3 black 1/3": "holds",
}

FORTY = "9" * 40
NO_ROWS = [
    "", " ", "  ", "\n", "name", "Names", "NAMES", "names names", "names 1", " names", "names ", "names\n", "\nnames",
    "book book", "book 1", " book", "book ", "books", "back back", "back 1", "back ", "hello", "help", "none", "ok",
    "say",
    "put", "put ", "put plum", "put plum ", "put 1/2 0 3/4", "put new 1/2 0", "put new 1/2 0 3/4 1",
    "put new 1/2 0 3/4 ", "put  new 1/2 0 3/4", "put new  1/2 0 3/4", "put new 1/2  0 3/4", " put new 1/2 0 3/4",
    "Put new 1/2 0 3/4", "put New 1/2 0 3/4", "put new1 1/2 0 3/4", "put abcdefghijklm 1/2 0 3/4", "put new 2/4 0 3/4",
    "put new 1/2 0 5/4", "put new 01/2 0 3/4", "put new -1/2 0 3/4", "put new 1/2 0 3/1", "put new shares 1/2 0 3/4",
    "put new print #8000bf", "put new #8000BF", "put new #8000b", "put new 8000bf", "put new grey",
    "put new grey 1/2 1/2", "put new grey 3/2", "put new turn 6 white 0 black 0", "put new turn 0 white 0 black 1",
    "put new turn 0 black 0 white 0", "put new none", "put new other 1/2 0 3/4", "put new plum", "put 1/2 0 3/4 new",
    "put new put", "put new\n1/2 0 3/4", "put new 0 0 0\n", "put plum", "put plum grey", "put Plum 0 0 0",
    "drop", "drop ", "drop  plum", "drop plum ", "drop plum moss", "drop Plum", "drop 1", "drop plum1", "drop plum\n",
    "drop abcdefghijklm", "drop #8000bf", "plum drop", "Drop plum",
    "rename", "rename plum", "rename plum ", "rename plum  new", "rename plum new ", "rename plum new new",
    "rename plum New", "rename Plum new", "rename plum 1", "rename plum abcdefghijklm", "rename nosuch New",
    "do", "do plum", "do plum ", "do  plum lighter", "do plum  lighter", "do plum lighter ", "do plum lighter 1/2 1/2",
    "do plum lighter  1/2", "do Plum lighter", "do lighter", "do plum1 lighter", "do plum lighter 2/4",
    "do plum lighter 1/1", "do plum lighter 01", "do plum lighter 1/02", "do plum lighter +1/2",
    "do plum lighter --1/2", "do plum lighter -0", "do plum turned -0", "do plum turned 00", "do plum turned -01",
    "do plum turned - 1", "do plum turned -", "do plum turned 1/-2", "do plum turned x", "do plum turned None",
    "do plum lighter a", "do plum lighter 1/0", "do plum lighter 0/1", "do plum lighter 0/2", "do plum lighter /2",
    "do plum lighter 1/", "do plum lighter /", "do plum lighter 1/2/3", "do plum lighter (1,2)",
    "do plum lighter 1/2\n", "do plum turned 1" + "0" * 40, "do plum turned -1" + "0" * 40,
    "do plum lighter 1/1" + "0" * 40, "do plum lighter 1" + "0" * 40 + "/7", "do plum nodeed -0",
    "do nosuch lighter -0", "do nosuch nodeed 2/4", "do plum opposite 2/4",
    "shade", "shade plum", "shade plum ", "shade plum shares ", "shade  plum shares", "shade plum  shares",
    "shade shares", "shade plum shares wheel", "shade Plum shares", "shade 1 shares", "shade nosuch", "shade nosuch ",
    "shade plum shares shares",
    "called", "called ", "called plum", "called 1/2 0", "called  1/2 0 3/4", "called 1/2 0 3/4 ", "called grey",
    "called #fff", "called 1/2 0 3/4 plum", "called shares 1/2 0 3/4", "called 2/4 0 0",
    "apart", "apart plum", "apart plum ", "apart plum moss mist", "apart plum  moss", "apart plum moss ",
    "apart Plum moss", "apart plum Moss", "apart plum 1/2", "apart nosuch Moss",
    "steps", "steps plum", "steps plum moss", "steps plum moss ", "steps plum moss 1/2 ", "steps plum moss  1/2",
    "steps plum moss 1/2 1/2", "steps plum 1/2", "steps 1/2 plum moss", "steps plum 1/2 moss", "steps plum moss 2/4",
    "steps plum moss 01", "steps plum moss -1", "steps plum moss -1/2", "steps plum moss -0", "steps plum moss 1/1",
    "steps plum moss a", "steps plum moss 1/0", "steps plum moss 1" + "0" * 40, "steps plum moss 1/1" + "0" * 40,
    "steps plum moss 1" + "0" * 40 + "/3", "steps Plum moss 1/2", "steps plum Moss 1/2", "steps nosuch moss 2/4",
    "steps plum moss None",
    "row", "row plum", "row plum moss", "row plum moss ", "row plum moss 1/2 ", "row plum moss 2/4",
    "row plum moss -1", "row plum moss 1/2 1/2", "row plum 1/2 moss", "row nosuch moss 01",
    "row plum moss 1" + "0" * 40, "row Plum moss 1/2", "rows plum moss 1/2",
    "mix", "mix ", "mix plum", "mix plum ", "mix 1 plum", "mix plum 1 ", "mix  plum 1", "mix plum  1",
    "mix plum 1 moss", "mix plum 1 moss 1 mist", "mix plum moss 1 1", "mix plum 01", "mix plum 00", "mix plum -1",
    "mix plum +1", "mix plum 1/2", "mix plum 1000000000", "mix plum 0000000001", "mix plum 1 moss 9999999999",
    "mix plum a", "mix plum 1 moss a", "mix Plum 1", "mix plum 1 Moss 1", "mix 1 1", "mix plum 1\n", "mix nosuch 01",
    "mix plum" + " 1 plum" * 8 + " 1", "mix nosuch" + " 1 plum" * 8 + " 1", "mix" + " plum 1" * 20, "mix plum 1 1",
    "mix plum plum", "mix plum 1,moss 1", "mix plum None",
    "near", "near ", "near  1/2", "near 1/2 ", "near 1/2 1/2", "near 2/4", "near 01", "near -1", "near 1/1", "near a",
    "near plum", "near 1/0", "near 1" + "0" * 40, "near 1/1" + "0" * 40, "near 1/2\n", "near None",
    "paper", "paper ", "paper plum", "paper 1/2 0", "paper 1/2 0 3/4 ", "paper  1/2 0 3/4", "paper grey",
    "paper called 0 0 0", "paper 2/4 0 0", "paper none",
    "put plum 1/2 0 3/4; names", "names; book", "eye 1 1 1",
]


def told_desk(eye=None, rows=PUTS):
    desk = Desk(eye)
    for row in rows:
        desk.say(row)
    return desk


def refused(desk, row):
    """The refusal of a row, whatever it is."""
    try:
        told = desk.say(row)
    except (ShadeError, MixError, BookError) as refusal:
        return refusal
    raise AssertionError(f"{row!r} was answered with {told!r}")


class Answered(unittest.TestCase):
    def test_each_row_of_the_interface(self):
        desk = told_desk()
        for row, answer in ASKED.items():
            with self.subTest(row):
                told = desk.say(row)
                self.assertIs(type(told), str)
                self.assertEqual(told, answer)
        for row in ("drop moss", "rename mist fog", "do plum lighter", "back", "put moss 0 0 0"):
            self.assertEqual(desk.say(row=row), "ok")
        self.assertEqual(desk.say("book"), "eye 1 1 1; plum 1/2 0 3/4; fog 2/3 2/3 2/3; rust 1/2 0 3/4; moss 0 0 0")

    def test_an_empty_desk(self):
        desk = Desk()
        for row in ("names", "called 0 0 0", "called #ffffff", "near 1", "near 1/1000"):
            self.assertEqual(desk.say(row), "none")
        self.assertEqual(desk.say("book"), "eye 1 1 1")
        self.assertEqual(desk.say("paper 1/2 0 3/4"), "holds")
        self.assertEqual(Desk(eye=(3, 60, 99)).say("book"), "eye 3 60 99")
        self.assertEqual(Desk(None).say("book"), "eye 1 1 1")

    def test_names_like_words(self):
        desk = Desk()
        for name in ("put", "names", "none", "ok", "grey", "turn", "shares", "lighter", "book", "back"):
            self.assertEqual(desk.say(f"put {name} grey 1/2"), "ok")
        self.assertEqual(desk.say("names"), "put names none ok grey turn shares lighter book back")
        self.assertEqual(desk.say("shade shares shares"), "1/2 1/2 1/2")
        self.assertEqual(desk.say("do lighter lighter"), "ok")
        self.assertEqual(desk.say("called 0 0 0"), "back book grey names none ok put shares turn")

    def test_the_books_own_eye(self):
        desk = told_desk((3, 6, 1))
        self.assertEqual(desk.say("apart plum moss"), "2733/400")
        self.assertEqual(desk.say("steps plum moss 1"), "3")
        self.assertEqual(desk.say("row plum moss 2"), "1/2 0 3/4 > 7/20 1/2 3/8 > 1/5 1 0")
        even = told_desk(rows=["put a 1/2 0 0", "put b 0 2/5 0"])
        sharp = told_desk((1, 2, 1), rows=["put a 1/2 0 0", "put b 0 2/5 0"])
        self.assertEqual((even.say("called 0 0 0"), sharp.say("called 0 0 0")), ("b", "a"))
        self.assertEqual((even.say("near 1/2"), sharp.say("near 1/2")), ("a b", "a / b"))
        self.assertEqual((even.say("paper 0 0 0"), sharp.say("paper 0 0 0")), ("holds", "holds"))

    def test_deeds_by_name(self):
        for row, shade in (
                ("lighter", "3/4 1/2 7/8"), ("lighter 1/3", "2/3 1/3 5/6"), ("lighter 0", "1/2 0 3/4"),
                ("lighter 1", "1 1 1"),
                ("darker", "1/4 0 3/8"), ("darker 1/5", "2/5 0 3/5"), ("duller", "11/24 5/24 7/12"),
                ("duller 1", "5/12 5/12 5/12"),
                ("opposite", "1/2 1 1/4"), ("turned", "3/4 1/2 0"), ("turned 1", "3/4 1/2 0"),
                ("turned 2", "0 3/4 1/2"),
                ("turned -1", "0 3/4 1/2"), ("turned 0", "1/2 0 3/4"), ("turned 3", "1/2 0 3/4"),
                ("turned -2", "3/4 1/2 0"),
                ("turned " + FORTY, "1/2 0 3/4"), ("turned -" + FORTY, "1/2 0 3/4"),
                ("turned 1" + "0" * 39, "3/4 1/2 0"),
                ("turned -1" + "0" * 39, "0 3/4 1/2")):
            desk = told_desk()
            self.assertEqual(desk.say(f"do plum {row}"), "ok")
            self.assertEqual(desk.say("shade plum shares"), shade)
            self.assertEqual(desk.say("back"), "ok")
            self.assertEqual(desk.say("shade plum shares"), "1/2 0 3/4")

    def test_numbers_of_forty_figures(self):
        desk = told_desk(rows=["put a 0 0 0", "put b 1 1 1"])
        self.assertEqual(desk.say(f"do a lighter 1/{FORTY}"), "ok")
        self.assertEqual(desk.say("shade a shares"), f"1/{FORTY} 1/{FORTY} 1/{FORTY}")
        top, bottom = "3" * 40, "1" + "0" * 39
        self.assertEqual(desk.say(f"steps a b {top}/{bottom}"), "1")
        self.assertEqual(desk.say(f"near {top}/{bottom}"), "a b")
        self.assertEqual(desk.say(f"row b b {top}/{bottom}"), "1 1 1")

    def test_numbers_of_nine_figures(self):
        desk = told_desk()
        for weight in ("999999999", "100000000", "1000001"):
            self.assertEqual(caught(NoWeights, desk.say, f"mix plum {weight}").many, 1)
        self.assertEqual(desk.say("mix plum 1000000"), "1/2 0 3/4")
        self.assertEqual(caught(NoRow, desk.say, "mix plum 1000000000").row, "mix plum 1000000000")

    def test_one_to_eight_pairs(self):
        desk = told_desk()
        for many in range(1, 9):
            self.assertEqual(desk.say("mix" + " plum 1" * many), "1/2 0 3/4")
        caught(NoRow, desk.say, "mix" + " plum 1" * 9)

    def test_each_way_is_read_back(self):
        for place, shade in enumerate(SOME_SHADES):
            desk = Desk()
            desk.say(f"put a {shade}")
            for way in ("shares", "wheel", "print"):
                told = desk.say(f"shade a {way}")
                desk.say(f"put b {told}")
                self.assertEqual(desk.say(f"shade b {way}"), told)
                if way != "print":
                    self.assertEqual(desk.say("apart a b"), "0")
                desk.say("back")


class Refused(unittest.TestCase):
    def test_what_is_no_text(self):
        for desk in (Desk(), told_desk()):
            ahead = desk.say("book")
            for thing in NO_TEXTS:
                with self.subTest(repr(thing)):
                    self.assertIs(caught(NoRow, desk.say, thing).row, thing)
                    self.assertIs(caught(NoRow, desk.say, row=thing).row, thing)
            self.assertEqual(desk.say("book"), ahead)

    def test_rows_that_are_not_so_written(self):
        for desk in (Desk(), told_desk(), told_desk((3, 6, 1), PUTS + ["drop plum"])):
            ahead = (desk.say("book"), desk.say("names"))
            for row in NO_ROWS:
                with self.subTest(row):
                    self.assertEqual(caught(NoRow, desk.say, row).row, row)
                    self.assertEqual((desk.say("book"), desk.say("names")), ahead)

    def test_rows_with_a_blank_too_many_or_a_word_out_of_place(self):
        desk = told_desk()
        rows = list(ASKED) + PUTS + ["drop plum", "rename plum new", "back", "do plum lighter", "do plum lighter 1/2"]
        ahead = desk.say("book")
        for row in rows:
            words = row.split(" ")
            for place in range(len(words) + 1):
                bent = " ".join(words[:place] + [""] + words[place:])
                self.assertEqual(caught(NoRow, desk.say, bent).row, bent)
            for bent in (row + "\n", "\n" + row, row + "  ", row.upper(), row.title()):
                if bent != row and not row.startswith("shade") and not row == "do plum lighter":
                    self.assertEqual(caught(NoRow, desk.say, bent).row, bent)
        self.assertEqual(desk.say("book"), ahead)

    def test_names_that_do_not_stand(self):
        desk = told_desk()
        ahead = desk.say("book")
        for row in ("drop nosuch", "rename nosuch new", "rename nosuch plum", "rename nosuch nosuch",
                    "do nosuch lighter",
                    "do nosuch lighter 1/2", "do nosuch lighter 3", "do nosuch nodeed", "do nosuch nodeed 1/2",
                    "do nosuch turned 1/2",
                    "do nosuch opposite 1", "shade nosuch shares", "shade nosuch noway", "apart nosuch plum",
                    "apart plum nosuch",
                    "apart nosuch nosuch", "steps nosuch plum 1/2", "steps plum nosuch 1/2", "steps nosuch plum 0",
                    "steps plum nosuch 1001",
                    "steps plum nosuch 1/1001", "row nosuch plum 1/2", "row plum nosuch 1/2", "row nosuch plum 0",
                    "row plum nosuch 1001",
                    "mix nosuch 1", "mix plum 1 nosuch 1", "mix plum 0 nosuch 0", "mix nosuch 999999999",
                    "mix plum 999999999 nosuch 1"):
            with self.subTest(row):
                self.assertEqual(caught(NoName, desk.say, row).name, "nosuch")
                self.assertEqual(desk.say("book"), ahead)
        for row in ("apart other nosuch", "steps other nosuch 1/2", "row other nosuch 1/2",
                    "mix plum 1 other 1 nosuch 1"):
            self.assertEqual(caught(NoName, desk.say, row).name, "other")
        self.assertEqual(caught(NoName, Desk().say, "drop plum").name, "plum")

    def test_no_such_deed(self):
        desk = told_desk()
        ahead = desk.say("book")
        for words in ("nodeed", "Lighter", "lighter,", "put", "opposite 1/2", "opposite 1", "opposite 0",
                      "opposite -1", "lighter 2",
                      "lighter 3/2", "lighter -1/2", "lighter -1", "darker -1/3", "darker 2", "duller 7/5",
                      "duller -1/9", "turned 1/2",
                      "turned -1/2", "turned 3/2", "nodeed 1/2", "nodeed 1", "nodeed -1", "1/2", "1/2 1/2", "#8000bf",
                      "lighter " + FORTY,
                      "lighter -1/" + FORTY):
            with self.subTest(words):
                self.assertEqual(caught(NoDeed, desk.say, f"do plum {words}").place, 0)
                self.assertEqual(desk.say("book"), ahead)

    def test_no_such_way(self):
        desk = told_desk()
        for way in ("noway", "Shares", "prints", "str", "none", "#8000bf", "1/2"):
            self.assertEqual(caught(NoWay, desk.say, f"shade plum {way}").way, way)

    def test_no_such_limit(self):
        desk = told_desk()
        for limit in ("0", "1001", "1/1001", "1000001/1000", "999/1000000", FORTY, "1/" + FORTY):
            told = tuple([int(part) for part in (limit + "/1").split("/")[:2]])
            for row in (f"steps plum moss {limit}", f"row plum moss {limit}", f"near {limit}",
                        f"steps plum plum {limit}"):
                with self.subTest(row):
                    self.assertEqual(caught(NoLimit, desk.say, row).limit, told)
        self.assertEqual(caught(NoLimit, Desk().say, "near 0").limit, (0, 1))

    def test_no_such_weights(self):
        desk = told_desk()
        for words, many in (("plum 0", 1), ("plum 0 moss 0", 2), ("plum 1000001", 1), ("plum 1 moss 1000001 mist 1", 3),
                            ("plum 0 " * 7 + "plum 0", 8)):
            self.assertEqual(caught(NoWeights, desk.say, f"mix {words}").many, many)

    def test_names_that_stand_and_a_full_book(self):
        desk = told_desk()
        for row in ("put plum 0 0 0", "put plum 1/2 0 3/4", "rename moss plum", "rename plum plum"):
            self.assertEqual(caught(NameStands, desk.say, row).name, "plum")
        for place in range(20):
            desk.say(f"put x{chr(97 + place)} 0 0 0")
        ahead = desk.say("book")
        self.assertEqual(caught(BookFull, desk.say, "put new 0 0 0").many, 24)
        self.assertEqual(caught(NameStands, desk.say, "put plum 0 0 0").name, "plum")
        caught(NoRow, desk.say, "put new 0 0")
        self.assertEqual(desk.say("book"), ahead)

    def test_nothing_to_take_back(self):
        desk = Desk()
        caught(NoBack, desk.say, "back")
        desk.say("put a 0 0 0")
        desk.say("back")
        caught(NoBack, desk.say, "back")
        self.assertEqual(desk.say("names"), "none")

    def test_what_is_no_eye(self):
        for thing in NO_EYES:
            with self.subTest(repr(thing)):
                self.assertIs(caught(NoEye, Desk, thing).eye, thing)
                self.assertIs(caught(NoEye, Desk, eye=thing).eye, thing)


def written(value):
    return str(Fraction(value))


class PlainDesk:
    """A desk reckoned anew: rows (NAME, three Fractions), and all that was ahead of each deed."""

    def __init__(self, eye):
        self.eye = eye
        self.rows = []
        self.past = []

    def shares(self, name):
        for one, shares in self.rows:
            if one == name:
                return shares
        raise LookupError(NoName)

    def turn_to(self, rows):
        self.past.append(self.rows)
        self.rows = rows
        return "ok"

    def say(self, word, *things):
        return getattr(self, "say_" + word)(*things)

    def say_put(self, name, shares):
        if name in [one for one, other in self.rows]:
            raise LookupError(NameStands)
        if len(self.rows) == 24:
            raise LookupError(BookFull)
        return self.turn_to(self.rows + [(name, shares)])

    def say_drop(self, name):
        self.shares(name)
        return self.turn_to([row for row in self.rows if row[0] != name])

    def say_rename(self, name, new):
        self.shares(name)
        if new in [one for one, other in self.rows]:
            raise LookupError(NameStands)
        return self.turn_to([(new if one == name else one, shares) for one, shares in self.rows])

    def say_back(self):
        if not self.past:
            raise LookupError(NoBack)
        self.rows = self.past.pop()
        return "ok"

    def say_do(self, name, word, by=None):
        shares = self.shares(name)
        part = Fraction(1, 2) if by is None else Fraction(by)
        middle = sum(shares) / 3
        if word == "turned":
            turn = 1 if by is None else part
            if turn.denominator != 1:
                raise LookupError(NoDeed)
            changed = [shares[(light - int(turn)) % 3] for light in range(3)]
        elif word == "opposite" and by is None:
            changed = [1 - share for share in shares]
        elif word in ("lighter", "darker", "duller") and 0 <= part <= 1:
            goal = {"lighter": 1, "darker": 0, "duller": middle}[word]
            changed = [share + part * (goal - share) for share in shares]
        else:
            raise LookupError(NoDeed)
        return self.turn_to([(one, changed if one == name else other) for one, other in self.rows])

    def say_shade(self, name, way):
        shares = self.shares(name)
        if way == "shares":
            return " ".join([written(share) for share in shares])
        if way == "print":
            return "#" + "".join([f"{int(share * 255 + Fraction(1, 2)):02x}" for share in shares])
        raise LookupError(NoWay)

    def plain_rows(self):
        return [(name, [as_tuple(share) for share in shares]) for name, shares in self.rows]

    def gap(self, name, other):
        one, two = self.shares(name), self.shares(other)
        return gap([as_tuple(share) for share in one], [as_tuple(share) for share in two], self.eye)

    def say_called(self, shares):
        return " ".join(nearest(self.plain_rows(), shares, self.eye)) or "none"

    def say_paper(self, shares):
        return "holds"

    def say_apart(self, name, other):
        return written(self.gap(name, other))

    def say_steps(self, name, other, limit):
        there = self.gap(name, other)
        if not Fraction(1, 1000) <= Fraction(limit) <= 1000:
            raise LookupError(NoLimit)
        return str(fewest_steps(there, Fraction(limit)))

    def say_row(self, name, other, limit):
        many = int(self.say_steps(name, other, limit))
        one, two = self.shares(name), self.shares(other)
        spots = [[a + Fraction(place, many or 1) * (b - a) for a, b in zip(one, two)] for place in range(many + 1)]
        return " > ".join([" ".join([written(share) for share in spot]) for spot in spots])

    def say_mix(self, *words):
        rows = [self.shares(name) for name in words[::2]]
        weights = [int(word) for word in words[1::2]]
        if sum(weights) == 0 or max(weights) > 1000000:
            raise LookupError(NoWeights)
        made = [sum(weight * row[light] for weight, row in zip(weights, rows)) / sum(weights) for light in range(3)]
        return " ".join([written(share) for share in made])

    def say_near(self, limit):
        if not Fraction(1, 1000) <= Fraction(limit) <= 1000:
            raise LookupError(NoLimit)
        names = [name for name, shares in self.rows]
        crowds = []
        for name in names:
            met = [crowd for crowd in crowds if any(self.gap(name, other) < Fraction(limit) for other in crowd)]
            crowds = [crowd for crowd in crowds if crowd not in met] + [sum(met, [name])]
        return " / ".join(sorted([" ".join(sorted(crowd)) for crowd in crowds],
                                 key=lambda crowd: crowd.split())) or "none"

    def say_book(self):
        rows = [" ".join([name] + [written(share) for share in shares]) for name, shares in self.rows]
        return "; ".join(["eye {} {} {}".format(*self.eye)] + rows)

    def say_names(self):
        return " ".join([name for name, shares in self.rows]) or "none"


NAMES = ["a", "b", "ab", "ba", "plum", "moss", "abcdefghijkl", "c", "d", "e"]


def random_row(source, many_names):
    """A row of the desk, and the same as the plain desk is told it."""
    name, other = source.choice(NAMES[:many_names]), source.choice(NAMES[:many_names])
    shares = [Fraction(source.randrange(5), 4) for light in range(3)]
    text = " ".join([written(share) for share in shares])
    word = source.choice(["put"] * 5 + ["do"] * 5 + ["drop", "rename", "back", "back", "shade", "called", "apart",
                                                     "steps", "row",
                                                     "mix", "near", "book", "names", "paper"])
    limit = source.choice(["1/2", "1/20", "3", "1/1000", "1000", "0", "1001", "7/9"])
    if word in ("put",):
        return f"put {name} {text}", ("put", name, shares)
    if word in ("called", "paper"):
        return f"{word} {text}", (word, shares)
    if word in ("drop",):
        return f"drop {name}", (word, name)
    if word in ("rename", "apart"):
        return f"{word} {name} {other}", (word, name, other)
    if word == "do":
        deed = [source.choice(["lighter", "darker", "duller", "turned", "opposite", "nodeed"])]
        deed += source.choice([[], [], ["1/2"], ["0"], ["1"], ["-1"], ["2/3"], ["-1/2"], ["5"]])
        return " ".join(["do", name] + deed), tuple(["do", name] + deed)
    if word == "shade":
        way = source.choice(["shares", "print", "noway"])
        return f"shade {name} {way}", (word, name, way)
    if word in ("steps", "row"):
        return f"{word} {name} {other} {limit}", (word, name, other, limit)
    if word == "mix":
        words = [part for pair in range(source.randrange(1, 9))
                 for part in (source.choice(NAMES[:many_names]), source.choice(["0", "1", "2", "1000000", "1000001"]))]
        return " ".join(["mix"] + words), tuple(["mix"] + words)
    if word == "near":
        return f"near {limit}", (word, limit)
    return word, (word,)


class Runs(unittest.TestCase):
    def both(self, desk, plain, row, asked):
        """The desk answers as the plain one does, or refuses as it does."""
        try:
            told = plain.say(*asked)
        except LookupError as refusal:
            self.assertIs(type(refused(desk, row)), refusal.args[0], row)
            return
        self.assertEqual(desk.say(row), told, row)

    def test_long_runs_against_plain_reckoning(self):
        for run in range(8):
            source = random.Random(run)
            eye = [(1, 1, 1), (3, 6, 1), (99, 1, 50)][run % 3]
            desk, plain = Desk(eye), PlainDesk(eye)
            for step in range(700):
                self.both(desk, plain, *random_row(source, 3 + run))
                self.assertEqual(desk.say("book"), plain.say("book"))
                self.assertEqual(desk.say("names"), plain.say("names"))
            while plain.past:
                self.both(desk, plain, "back", ("back",))
                self.assertEqual(desk.say("book"), plain.say("book"))
            self.assertEqual(desk.say("names"), "none")
            caught(NoBack, desk.say, "back")

    def test_two_desks_by_turns(self):
        sources = [random.Random(100), random.Random(200)]
        eyes = [(1, 1, 1), (7, 1, 3)]
        desks, plains = [Desk(eye) for eye in eyes], [PlainDesk(eye) for eye in eyes]
        for step in range(400):
            for source, desk, plain in zip(sources, desks, plains):
                self.both(desk, plain, *random_row(source, 5))
            for desk, plain in zip(desks, plains):
                self.assertEqual(desk.say("book"), plain.say("book"))
                self.assertEqual(desk.say("names"), plain.say("names"))

    def test_up_to_a_full_book_and_back_to_the_begin(self):
        desk, plain = Desk(), PlainDesk((1, 1, 1))
        for place in range(26):
            shares = [Fraction(place, 25), Fraction(1, 2), Fraction(25 - place, 25)]
            text = " ".join([written(share) for share in shares])
            self.both(desk, plain, f"put n{chr(97 + place)} {text}", ("put", "n" + chr(97 + place), shares))
            self.assertEqual(desk.say("book"), plain.say("book"))
        for limit in ("1/1000", "1/300", "1/100", "1"):
            self.both(desk, plain, f"near {limit}", ("near", limit))
        for deed in range(24):
            self.both(desk, plain, "back", ("back",))
            self.assertEqual(desk.say("book"), plain.say("book"))
        self.both(desk, plain, "back", ("back",))

    def test_refused_rows_change_nothing(self):
        desk = told_desk()
        for row in ("do plum lighter", "rename moss fern"):
            desk.say(row)
        ahead = desk.say("book")
        for row in NO_ROWS + ["drop nosuch", "put plum 0 0 0", "rename plum fern", "do plum nodeed",
                              "do plum lighter 2",
                              "shade plum noway", "near 0", "mix plum 0"]:
            refused(desk, row)
            self.assertEqual(desk.say("book"), ahead)
        desk.say("back")
        desk.say("back")
        self.assertEqual(desk.say("book"), told_desk().say("book"))

    def test_asking_is_no_deed(self):
        desk = told_desk()
        for row, answer in ASKED.items():
            self.assertEqual(desk.say(row), answer)
        for row in PUTS:
            desk.say("back")
        self.assertEqual(desk.say("names"), "none")
        caught(NoBack, desk.say, "back")

    def test_what_was_asked_once_is_told_the_same_again(self):
        desk = told_desk()
        for turn in range(3):
            for row, answer in ASKED.items():
                self.assertEqual(desk.say(row), answer)
            for row in ("do plum lighter 1/7", "drop moss", "rename mist fog", "put new 0 0 0"):
                desk.say(row)
            for row in range(4):
                desk.say("back")


if __name__ == "__main__":
    unittest.main()
