"""Nearness: how far two Shades are, as an eye sees them."""

from lightshares.errors import NoEye
from lightshares.fractions import is_whole, lowest
from lightshares.shades import shares_of

EVEN_EYE = (1, 1, 1)
MOST_OF_EYE = 99


def is_eye(thing):
    """Whether a thing of any kind is an eye."""
    if not isinstance(thing, tuple) or len(thing) != 3:
        return False
    return all([is_whole(one) and 1 <= one <= MOST_OF_EYE for one in thing])


def eye_of(eye):
    """EYE itself, or the even one where it is None."""
    if eye is None:
        return EVEN_EYE
    if not is_eye(eye):
        raise NoEye(eye)
    return eye


def far(shade, other, eye=None):
    """The squares of what the shares are apart, each so many times as EYE tells, together."""
    # Lowest terms are sought once, at the end: with many figures they cost more than all else.
    top = 0
    bottom = 1
    for one, two, many in zip(shares_of(shade), shares_of(other), eye_of(eye)):
        gap = one[0] * two[1] - two[0] * one[1]
        under = one[1] * two[1]
        top = top * under * under + many * gap * gap * bottom
        bottom = bottom * under * under
    return lowest(top, bottom)
