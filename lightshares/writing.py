"""Writing: Shades as texts in three ways, and texts read back."""

from lightshares.errors import NoText, NoWay
from lightshares.fractions import ONE, below, fraction, fraction_in, plus, written
from lightshares.prints import USUAL_GRADE, printed
from lightshares.shades import Shade, is_share, need_shade, shade_of
from lightshares.wheel import by_wheel, wheel_of

SIGNS = "0123456789abcdef"


def show_shares(shade):
    """The three shares of a Shade, with blanks between."""
    return str(shade)


def show_wheel(shade):
    """A Shade by its place on the wheel."""
    turn, white, black = wheel_of(shade)
    if turn is None:
        return f"grey {written(white)}"
    return f"turn {written(turn)} white {written(white)} black {written(black)}"


def show_print(shade):
    """The steps of a Shade by two signs each."""
    pairs = [SIGNS[step // 16] + SIGNS[step % 16] for step in printed(shade, USUAL_GRADE)]
    return "#" + "".join(pairs)


def read_shares(text):
    """The Shade whose three shares a text shows, or None."""
    shares = [fraction_in(part) for part in text.split(" ")]
    if len(shares) != 3 or not all([is_share(share) for share in shares]):
        return None
    return shade_of(shares)


def read_grey(words):
    """The grey that the words behind `grey` show, or None."""
    if len(words) != 1:
        return None
    share = fraction_in(words[0])
    if not is_share(share):
        return None
    return Shade(share, share, share)


def read_turn(words):
    """The Shade that the words behind `turn` show, or None."""
    if len(words) != 5 or words[1] != "white" or words[3] != "black":
        return None
    turn, white, black = [fraction_in(word) for word in words[::2]]
    if turn is None or white is None or black is None:
        return None
    if not below(turn, (6, 1)) or not below(plus(white, black), ONE):
        return None
    return by_wheel(white, black, turn)


def read_wheel(text):
    """The Shade whose place on the wheel a text shows, or None."""
    first, *words = text.split(" ")
    if first == "grey":
        return read_grey(words)
    if first == "turn":
        return read_turn(words)
    return None


def read_print(text):
    """The Shade with the steps' shares that a text shows, or None."""
    if len(text) != 7 or text[0] != "#":
        return None
    places = [SIGNS.find(sign) for sign in text[1:]]
    if min(places) < 0:
        return None
    return shade_of([fraction(16 * places[at] + places[at + 1], USUAL_GRADE) for at in (0, 2, 4)])


SHOW_BY_WAY = {"print": show_print, "shares": show_shares, "wheel": show_wheel}
READ_BY_WAY = {"print": read_print, "shares": read_shares, "wheel": read_wheel}


def ways():
    """The words for the ways of writing, rising."""
    return tuple(sorted(SHOW_BY_WAY))


def need_way(thing):
    """Refuse what is no way of writing."""
    if not isinstance(thing, str) or thing not in SHOW_BY_WAY:
        raise NoWay(thing)


def show(shade, way="shares"):
    """A Shade as a text, written in this way."""
    need_shade(shade)
    need_way(way)
    show_so = SHOW_BY_WAY[way]
    return show_so(shade)


def read_by(text, tried):
    """The Shade that a text shows in the first of these ways in which it is written, or None."""
    for way in tried:
        read_so = READ_BY_WAY[way]
        shade = read_so(text)
        if shade is not None:
            return shade
    return None


def read(text, way=None):
    """The Shade that a text shows, written in this way, or in whichever where WAY is None."""
    if not isinstance(text, str):
        raise NoText(0)
    if way is not None:
        need_way(way)
    shade = read_by(text, ways() if way is None else (way,))
    if shade is None:
        raise NoText(0)
    return shade
