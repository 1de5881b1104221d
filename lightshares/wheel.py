"""The wheel: a Shade by its turn, the white and the black in it."""

from lightshares.errors import NoPart, NoTurn
from lightshares.fractions import ONE, below, is_fraction, minus, over, plus, times
from lightshares.shades import Shade, shares_of

# The six stretches of the wheel, the first from turn 0 to 1: the numbers of the greatest light, of the
# least and of the one between; where F is 0; and whether F grows (1) or shrinks (-1) along the stretch.
STRETCHES = (
    (0, 2, 1, 0, 1),
    (1, 2, 0, 2, -1),
    (1, 0, 2, 2, 1),
    (2, 0, 1, 4, -1),
    (2, 1, 0, 4, 1),
    (0, 1, 2, 6, -1),
)


def falls(shares, stretch):
    """Whether these shares go down from the stretch's greatest light to its least."""
    greatest, least, middle = stretch[:3]
    return not below(shares[greatest], shares[middle]) and not below(shares[middle], shares[least])


def stretch_of(shares):
    """The first stretch to which these shares belong.

    The seam at 6 belongs to the first stretch, too, and so it is told as 0.
    """
    fitting = [stretch for stretch in STRETCHES if falls(shares, stretch)]
    return fitting[0]


def wheel_of(shade):
    """The (TURN, WHITE, BLACK) of a Shade, TURN None where all shares are alike."""
    shares = shares_of(shade)
    greatest, least, middle, start, way = stretch_of(shares)
    white = shares[least]
    black = minus(ONE, shares[greatest])
    if shares[greatest] == white:
        return (None, white, black)
    part = over(minus(shares[middle], white), minus(shares[greatest], white))
    return (plus((start, 1), times((way, 1), part)), white, black)


def is_from_0(thing):
    """Whether a thing of any kind is a fraction from 0 on."""
    return is_fraction(thing) and thing[0] >= 0


def need_turn(white, black, turn):
    """Refuse a TURN that is none, or doesn't go with WHITE and BLACK."""
    together = plus(white, black)
    if turn is None:
        fits = together == ONE
    else:
        fits = is_from_0(turn) and below(turn, (6, 1)) and below(together, ONE)
    if not fits:
        raise NoTurn(turn)


def by_wheel(white, black, turn=None):
    """The Shade at a TURN with so much WHITE and BLACK, a grey where TURN is None."""
    for thing in (white, black):
        if not is_from_0(thing):
            raise NoPart(thing)
    need_turn(white, black, turn)
    if turn is None:
        return Shade(white, white, white)
    greatest, least, middle, start, way = STRETCHES[turn[0] // turn[1]]
    most = minus(ONE, black)
    part = times((way, 1), minus(turn, (start, 1)))
    shares = {greatest: most, middle: plus(white, times(part, minus(most, white))), least: white}
    return Shade(shares[0], shares[1], shares[2])
