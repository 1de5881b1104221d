"""Fractions: tuples (TOP, BOTTOM) of whole numbers in lowest terms, BOTTOM from 1 on."""

from lightshares.errors import NoNumber

ZERO = (0, 1)
ONE = (1, 1)

# Python refuses to write and to read numbers of some thousand figures at once, so it is done by pieces.
PIECE_FIGURES = 64
PIECE = 10 ** 64


def is_whole(thing):
    """Whether a thing of any kind is a whole number."""
    return isinstance(thing, int) and not isinstance(thing, bool)


def common(one, other):
    """The greatest whole number that divides both, which are from 0 on."""
    while other != 0:
        one, other = other, one % other
    return one


def is_fraction(thing):
    """Whether a thing of any kind is a fraction."""
    if not isinstance(thing, tuple) or len(thing) != 2:
        return False
    top, bottom = thing
    return is_whole(top) and is_whole(bottom) and bottom >= 1 and common(abs(top), bottom) == 1


def lowest(top, bottom):
    """TOP divided by BOTTOM, which isn't 0, in lowest terms."""
    if bottom < 0:
        top, bottom = -top, -bottom
    shared = common(abs(top), bottom)
    return (top // shared, bottom // shared)


def need_fractions(things):
    """Refuse the first thing that is no fraction, by its place."""
    for place, thing in enumerate(things):
        if not is_fraction(thing):
            raise NoNumber(place)


def fraction(top, bottom=1):
    """The fraction of two whole numbers, TOP divided by BOTTOM."""
    if not is_whole(top):
        raise NoNumber(0)
    if not is_whole(bottom) or bottom == 0:
        raise NoNumber(1)
    return lowest(top, bottom)


def plus(one, other):
    """Both fractions together."""
    need_fractions((one, other))
    return lowest(one[0] * other[1] + other[0] * one[1], one[1] * other[1])


def minus(one, other):
    """The first fraction less the other one."""
    need_fractions((one, other))
    return lowest(one[0] * other[1] - other[0] * one[1], one[1] * other[1])


def times(one, other):
    """The first fraction, the other one times."""
    need_fractions((one, other))
    return lowest(one[0] * other[0], one[1] * other[1])


def over(one, other):
    """The first fraction divided by the other one."""
    need_fractions((one, other))
    if other[0] == 0:
        raise NoNumber(1)
    return lowest(one[0] * other[1], one[1] * other[0])


def less(one, other):
    """Whether the first of two is less, in whatever terms, their bottoms from 1 on."""
    return one[0] * other[1] < other[0] * one[1]


def below(one, other):
    """Whether the first fraction is less than the other one."""
    need_fractions((one, other))
    return less(one, other)


def alike(one, other):
    """Whether two are of the same worth, in whatever terms."""
    return one[0] * other[1] == other[0] * one[1]


def what_more(one, other):
    """What the first of two has more than the other one, in whatever terms."""
    return (one[0] * other[1] - other[0] * one[1], one[1] * other[1])


def weighed(weights, row):
    """All of a row together, each so many times as its weight tells, in whatever terms."""
    top = 0
    bottom = 1
    for weight, one in zip(weights, row):
        under = weight[1] * one[1]
        top = top * under + weight[0] * one[0] * bottom
        bottom = bottom * under
    return (top, bottom)


def least_of(row):
    """The least of a row, in whatever terms, their bottoms from 1 on; None of an empty one."""
    least = None
    for one in row:
        if least is None or less(one, least):
            least = one
    return least


def nearest_whole(one):
    """The whole number nearest to a fraction, the greater one of two."""
    need_fractions((one,))
    return (2 * one[0] + one[1]) // (2 * one[1])


def root_under(number):
    """The greatest whole number whose square is at most NUMBER, a whole number from 0 on."""
    if number == 0:
        return 0
    # The guess begins above the root and sinks, so the first that sinks no more is the root.
    guess = 1 << (number.bit_length() + 1) // 2
    nearer = (guess + number // guess) // 2
    while nearer < guess:
        guess = nearer
        nearer = (guess + number // guess) // 2
    return guess


def root_above(one):
    """The least whole number from 0 on whose square is no less than a fraction from 0 on."""
    need_fractions((one,))
    top, bottom = one
    if top < 0:
        raise NoNumber(0)
    if top == 0:
        return 0
    # A square is whole, so it is no less than the fraction just where it is above this.
    under = (top - 1) // bottom
    return root_under(under) + 1


def figures(number):
    """A whole number from 0 on, of whatever many figures, as a text."""
    pieces = []
    while number >= PIECE:
        number, piece = divmod(number, PIECE)
        pieces.append(str(piece).zfill(PIECE_FIGURES))
    pieces.append(str(number))
    return "".join(pieces[::-1])


def written(one):
    """A fraction from 0 on as a text: TOP, or TOP/BOTTOM where BOTTOM isn't 1."""
    if one[1] == 1:
        return figures(one[0])
    return f"{figures(one[0])}/{figures(one[1])}"


def is_number(text):
    """Whether a text is a whole number from 0 on, in figures without noughts ahead but 0 itself."""
    return text.isascii() and text.isdigit() and (text == "0" or text[0] != "0")


def number_in(text):
    """The whole number, of whatever many figures, that a text shows."""
    ahead = len(text) % PIECE_FIGURES
    number = int("0" + text[:ahead])
    for start in range(ahead, len(text), PIECE_FIGURES):
        number = number * PIECE + int(text[start:start + PIECE_FIGURES])
    return number


def fraction_in(text):
    """The fraction from 0 on that a text shows, or None where it isn't just so written."""
    top, slash, bottom = text.partition("/")
    if slash == "":
        bottom = "1"
    elif bottom == "1":
        return None
    if not is_number(top) or not is_number(bottom):
        return None
    told = (number_in(top), number_in(bottom))
    return told if is_fraction(told) else None
