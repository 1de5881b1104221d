import unittest
from fractions import Fraction

from lightshares.errors import NoShade, NoText, NoWay
from lightshares.prints import printed
from lightshares.shades import Shade, shares_of
from lightshares.wheel import by_wheel, wheel_of
from lightshares.writing import read, show, ways
from things import BLACK, HOLDERS, NO_SHADES, SOME_SHADES, WHITE, caught

GREAT = 10 ** 59 + 7
ONE = Shade((1, 2), (0, 1), (3, 4))
WAYS = ("print", "shares", "wheel")

# A Shade, and its text in each way.
ROWS = [
    (ONE, "1/2 0 3/4", "turn 14/3 white 0 black 1/4", "#8000bf"),
    (BLACK, "0 0 0", "grey 0", "#000000"),
    (WHITE, "1 1 1", "grey 1", "#ffffff"),
    (Shade((1, 3), (1, 3), (1, 3)), "1/3 1/3 1/3", "grey 1/3", "#555555"),
    (Shade((1, 1), (0, 1), (0, 1)), "1 0 0", "turn 0 white 0 black 0", "#ff0000"),
    (Shade((1, 1), (0, 1), (1, 1)), "1 0 1", "turn 5 white 0 black 0", "#ff00ff"),
    (Shade((0, 1), (1, 1), (1, 1)), "0 1 1", "turn 3 white 0 black 0", "#00ffff"),
    (Shade((3, 4), (1, 4), (1, 4)), "3/4 1/4 1/4", "turn 0 white 1/4 black 1/4", "#bf4040"),
    (Shade((1, 4), (3, 4), (1, 4)), "1/4 3/4 1/4", "turn 2 white 1/4 black 1/4", "#40bf40"),
    (Shade((2, 51), (57, 85), (14, 15)), "2/51 57/85 14/15", "turn 751/228 white 2/51 black 1/15", "#0aabee"),
    (Shade((1, 510), (1, 511), (509, 510)), "1/510 1/511 509/510",
     "turn 1038357/259589 white 1/511 black 1/510", "#0100ff"),
    (Shade((1, GREAT), (0, 1), (0, 1)), f"1/{GREAT} 0 0", f"turn 0 white 0 black {GREAT - 1}/{GREAT}", "#000000"),
    (Shade((1, GREAT), (1, GREAT), (1, GREAT)), f"1/{GREAT} 1/{GREAT} 1/{GREAT}", f"grey 1/{GREAT}", "#000000"),
]

NO_TEXTS = [
    None, True, False, 0, 1, b"", b"1/2 0 3/4", b"#8000bf", [], ["1/2", "0", "3/4"], ("1/2", "0", "3/4"), (), {},
    {"1/2 0 3/4": 1}, ONE, BLACK, ((1, 2), (0, 1), (3, 4)), object(), len, Shade, str,
] + HOLDERS

NO_WAYS = [
    True, False, 0, 1, "", "Shares", "SHARES", "share", " shares", "shares ", "shares\n", "prints", "wheels",
    "grey", "print wheel", "str", b"shares", [], ["shares"], ("shares",), (), {}, {"shares": 1}, ONE, BLACK, object(),
    len, show,
] + HOLDERS

NO_SHARES_TEXTS = [
    "", " ", "0", "0 0", "0 0 0 0", " 0 0 0", "0 0 0 ", "0  0 0", "0 0  0", "0 0 0\n", "\n0 0 0", "0\n0\n0",
    "0 0\n0", "0\t0\t0", "0,0,0", "00 0 0", "0 00 0", "0 0 01", "01 0 0", "1 0 001", "2/4 0 0", "0 3/6 0",
    "0 0 10/20", "0/2 0 0", "0/1 0 0", "1/1 0 0", "0 2/2 0", "2/1 0 0", "1/0 0 0", "0/0 0 0", "0 1/00 0",
    "1/02 0 0", "01/2 0 0", "0 0 1/2/3", "0 0 1/", "0 0 /2", "0 / 0", "/ / /", "1 / 2 0 0", "1/ 2 0 0", "1 /2 0 0",
    "3/2 0 0", "0 3/2 0", "0 0 2", "0 0 256/255", "-1 0 0", "-0 0 0", "+1 0 0", "-1/2 0 0", "1/-2 0 0", "0.5 0 0",
    "1e0 0 0", "1_0/11 0 0", "0x1 0 0", "a 0 0", "0 0 b", "one 0 0", "(1, 2) 0 0", "1/2 0 3/4.",
    "Shade(1/2 0 3/4)", "shares 1/2 0 3/4", "ember 1 leaf 0 sky 0", "0 0 0 #000000", f"{GREAT + 1}/{GREAT} 0 0",
    f"{2 * GREAT}/{4 * GREAT} 0 0", f"0 0 0{GREAT}/{GREAT + 1}", "1/2 0 3/4\n\n", "1/2 0 3/4 \n",
]

NO_WHEEL_TEXTS = [
    "", "grey", "grey ", "grey  0", " grey 0", "grey 0 ", "grey 0\n", "\ngrey 0", "grey\n0", "grey 0 0", "Grey 0",
    "GREY 0", "gray 0", "grey 2", "grey 3/2", "grey 2/4", "grey 0/1", "grey 1/1", "grey 00", "grey 01", "grey -1",
    "grey -0", "grey x", "grey white 0", "grey none", "grey 1/2 black 1/2", "0", "black", "white", "turn",
    "turn 0", "turn 0 white 0", "turn 0 white 0 black", "turn 0 white 0 black ", "turn 0 white 0 black 0 ",
    " turn 0 white 0 black 0", "turn  0 white 0 black 0", "turn 0 white  0 black 0", "turn 0 white 0 black 0\n",
    "turn 0 white 0\nblack 0", "turn 0 white 0 black 0 0", "turn 0 black 0 white 0", "turn 0 white 0 white 0",
    "turn 0 black 0 black 0", "white 0 black 0 turn 0", "Turn 0 white 0 black 0", "turn 0 White 0 black 0",
    "turn 0 white 0 Black 0", "turn 6 white 0 black 0", "turn 7 white 0 black 0", "turn 13/2 white 0 black 0",
    f"turn {6 * GREAT + 1}/{GREAT} white 0 black 0", "turn 10 white 0 black 0", "turn 2/4 white 0 black 0",
    "turn 4/2 white 0 black 0", "turn 0/3 white 0 black 0", "turn 0/1 white 0 black 0", "turn 1/1 white 0 black 0",
    "turn 00 white 0 black 0", "turn 01 white 0 black 0", "turn -1 white 0 black 0", "turn None white 0 black 1",
    "turn none white 0 black 1", "turn x white 0 black 0", "turn 1/0 white 0 black 0", "turn 0 white 2/4 black 0",
    "turn 0 white 0 black 2/4", "turn 0 white 00 black 0", "turn 0 white 0 black 00", "turn 0 white -1 black 0",
    "turn 0 white 0 black -1", "turn 0 white x black 0", "turn 0 white 0 black x", "turn 0 white 1/2 black 1/2",
    "turn 0 white 1 black 0", "turn 0 white 0 black 1", "turn 0 white 1/3 black 2/3", "turn 3 white 2/3 black 2/3",
    "turn 0 white 2 black 0", "turn 0 white 0 black 2", f"turn 0 white {GREAT - 1}/{GREAT} black 1/{GREAT}",
    "turn 0 0 0", "turn, 0 white 0 black 0", "turn 0 grey 0 black 0", "wheel grey 0", "turn white 0 black 0",
    "grey turn 0 white 0 black 0",
]

NO_PRINT_TEXTS = [
    "", "#", "#0", "#000", "#00000", "#0000000", "#00000000", "000000", "0000000", "##00000", " #000000",
    "#000000 ", "# 000000", "#00 0000", "#000000\n", "\n#000000", "#00000\n", "#00000 ", "#A00000", "#00000F",
    "#ABCDEF", "#FFFFFF", "#00g000", "#00000g", "#zzzzzz", "#-10000", "#+10000", "#0x0000", "#12345/", "#12345:",
    "#12345@", "#12345`", "0x000000", "$000000", "#rrggbb", "print #000000", "#000000#", "#00,000", "#1_0000",
]


def as_tuple(value):
    return (value.numerator, value.denominator)


def many_shades():
    """Shades of many kinds: greys, two shares alike, bottoms of many figures."""
    shades = [BLACK, WHITE, ONE] + SOME_SHADES
    shares = [(1, GREAT), (GREAT - 1, GREAT), (GREAT // 3, GREAT + 4), (1, 7), (1, 2)]
    for one in shares:
        for other in shares:
            for third in (one, other, (0, 1), (1, 1), (2, GREAT - 2)):
                if all(Fraction(*share).denominator == share[1] for share in (one, other, third)):
                    shades.append(Shade(one, other, third))
    return shades


class Ways(unittest.TestCase):
    def test_the_words(self):
        self.assertEqual(ways(), WAYS)
        self.assertIs(type(ways()), tuple)

    def test_each_is_a_way(self):
        for way in ways():
            self.assertEqual(read(show(ONE, way), way), read(show(ONE, way)))


class Show(unittest.TestCase):
    def test_written_out(self):
        for shade, shares, wheel, sign in ROWS:
            with self.subTest(shares):
                self.assertEqual(show(shade, "shares"), shares)
                self.assertEqual(show(shade, "print"), sign)
                self.assertEqual(show(shade, "wheel"), wheel)

    def test_way_left_out_is_shares(self):
        self.assertEqual(show(ONE), "1/2 0 3/4")
        self.assertEqual(show(shade=ONE), "1/2 0 3/4")

    def test_by_names(self):
        self.assertEqual(show(way="print", shade=ONE), "#8000bf")
        self.assertEqual(show(way="wheel", shade=ONE), "turn 14/3 white 0 black 1/4")

    def test_many_shades(self):
        for shade in many_shades():
            self.assertEqual(show(shade, "shares"), str(shade))
            steps = printed(shade)
            self.assertEqual(show(shade, "print"), "#" + "".join([f"{step:02x}" for step in steps]))
            turn, white, black = [None if one is None else str(Fraction(*one)) for one in wheel_of(shade)]
            told = f"grey {white}" if turn is None else f"turn {turn} white {white} black {black}"
            self.assertEqual(show(shade, "wheel"), told)

    def test_every_step_in_a_print(self):
        for step in range(256):
            for light in range(3):
                steps = [200, 30, 4]
                steps[light] = step
                shade = Shade(*[as_tuple(Fraction(one, 255)) for one in steps])
                self.assertEqual(show(shade, "print"), "#{:02x}{:02x}{:02x}".format(*steps))

    def test_the_shade_ahead_of_the_way(self):
        for thing in NO_SHADES:
            with self.subTest(repr(thing)):
                for way in WAYS + (None, "no", 1, []):
                    self.assertIsNone(caught(NoShade, show, thing, way).light)
                self.assertIsNone(caught(NoShade, show, thing).light)
                self.assertIsNone(caught(NoShade, show, way="no", shade=thing).light)

    def test_a_way_that_is_none(self):
        for thing in NO_WAYS + [None]:
            with self.subTest(repr(thing)):
                self.assertIs(caught(NoWay, show, ONE, thing).way, thing)
                self.assertIs(caught(NoWay, show, way=thing, shade=BLACK).way, thing)


class Read(unittest.TestCase):
    def test_written_out(self):
        for shade, shares, wheel, sign in ROWS:
            with self.subTest(shares):
                for told in (read(shares), read(shares, None), read(shares, "shares"), read(way="shares", text=shares)):
                    self.assertEqual(told, shade)
                for told in (read(wheel), read(wheel, None), read(wheel, "wheel"), read(text=wheel)):
                    self.assertEqual(told, shade)

    def test_each_way_is_read_back_as_the_same_shade(self):
        for shade in many_shades():
            for way in ("shares", "wheel"):
                text = show(shade, way)
                for told in (read(text, way), read(text), read(text, None)):
                    self.assertIsInstance(told, Shade)
                    self.assertEqual(told, shade)

    def test_a_print_is_read_back_as_what_it_shows(self):
        for shade in many_shades():
            text = show(shade, "print")
            shown = Shade(*[as_tuple(Fraction(step, 255)) for step in printed(shade)])
            for told in (read(text, "print"), read(text), read(text, None)):
                self.assertEqual(told, shown)
            self.assertEqual(show(shown, "print"), text)

    def test_every_step_of_a_print(self):
        for step in range(256):
            for light in range(3):
                steps = [17, 160, 255]
                steps[light] = step
                told = read("#{:02x}{:02x}{:02x}".format(*steps))
                self.assertEqual(shares_of(told), tuple([as_tuple(Fraction(one, 255)) for one in steps]))

    def test_greys_white_and_black_by_the_wheel(self):
        for top in range(13):
            share = as_tuple(Fraction(top, 12))
            self.assertEqual(read(f"grey {Fraction(top, 12)}"), Shade(share, share, share))

    def test_every_turn(self):
        for top in range(0, 60):
            for white, black in ((0, 0), (Fraction(1, 3), Fraction(1, 2)), (0, Fraction(GREAT - 1, GREAT))):
                turn = Fraction(top, 10)
                told = read(f"turn {turn} white {white} black {black}")
                self.assertEqual(told, by_wheel(as_tuple(Fraction(white)), as_tuple(Fraction(black)), as_tuple(turn)))
        nearly = f"turn {6 * GREAT - 1}/{GREAT} white 0 black 0"
        self.assertEqual(wheel_of(read(nearly)), ((6 * GREAT - 1, GREAT), (0, 1), (0, 1)))

    def test_long_texts(self):
        bottom = 10 ** 590 + 1
        text = f"1/{bottom} {bottom - 1}/{bottom} 0"
        self.assertEqual(read(text), Shade((1, bottom), (bottom - 1, bottom), (0, 1)))
        self.assertEqual(show(read(text)), text)

    def test_numbers_that_python_does_not_read_at_once(self):
        bottom = 10 ** 5000 + 1
        shade = Shade((1, bottom), (bottom - 1, bottom), (1, 2))
        for way in ("shares", "wheel"):
            self.assertEqual(read(show(shade, way), way), shade)

    def test_numbers_of_each_length(self):
        for many in range(1, 200):
            for bottom in (10 ** many, 10 ** many + 1, 9 * 10 ** many + 10 ** (many // 2) + 1):
                self.assertEqual(read(f"1/{bottom} 0 1"), Shade((1, bottom), (0, 1), (1, 1)))


class NotSoWritten(unittest.TestCase):
    def refused(self, texts, way):
        for text in texts:
            with self.subTest(repr(text)):
                self.assertEqual(caught(NoText, read, text, way).row, 0)
                self.assertEqual(caught(NoText, read, way=way, text=text).row, 0)
                self.assertEqual(caught(NoText, read, text).row, 0)
                self.assertEqual(caught(NoText, read, text, None).row, 0)

    def test_shares(self):
        self.refused(NO_SHARES_TEXTS, "shares")

    def test_wheel(self):
        self.refused(NO_WHEEL_TEXTS, "wheel")

    def test_print(self):
        self.refused(NO_PRINT_TEXTS, "print")

    def test_other_signs(self):
        for text in ("\u0661 0 0", "1/2 0 3/\u0664", "grey \u0661", "#\u0661\u0661\u0661\u0661\u0661\u0661",
                     "\u00b2 0 0", "0\u00a00\u00a00", "0 0 0\r", "0 0 0\x00"):
            self.refused([text], "shares")

    def test_written_in_another_way(self):
        for shade in (ONE, BLACK, WHITE, ROWS[3][0]):
            for way in WAYS:
                for told in WAYS:
                    if told != way:
                        self.assertEqual(caught(NoText, read, show(shade, way), told).row, 0)

    def test_what_is_no_text_is_refused_ahead_of_the_way(self):
        for thing in NO_TEXTS:
            with self.subTest(repr(thing)):
                for way in WAYS + (None, "no", 1, [], ONE):
                    self.assertEqual(caught(NoText, read, thing, way).row, 0)
                self.assertEqual(caught(NoText, read, thing).row, 0)
                self.assertEqual(caught(NoText, read, way="no", text=thing).row, 0)

    def test_a_way_that_is_none_is_refused_ahead_of_what_is_written(self):
        for thing in NO_WAYS:
            with self.subTest(repr(thing)):
                for text in ("1/2 0 3/4", "grey 0", "#8000bf", "", "no", "0 0 0\n"):
                    self.assertIs(caught(NoWay, read, text, thing).way, thing)
                self.assertIs(caught(NoWay, read, way=thing, text="no").way, thing)


if __name__ == "__main__":
    unittest.main()
