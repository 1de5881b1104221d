"""Nearness: how far two Shades are, as an eye sees them."""

from lightshares.errors import NoEye, NoLimit
from lightshares.fractions import is_fraction, is_whole, less, lowest
from lightshares.shades import need_shade, shares_of

EVEN_EYE = (1, 1, 1)
MOST_OF_EYE = 99
LEAST_LIMIT = (1, 1000)
MOST_LIMIT = (1000, 1)


def is_eye(thing):
    """Whether a thing of any kind is an eye."""
    if not isinstance(thing, tuple) or len(thing) != 3:
        return False
    return all([is_whole(one) and 1 <= one <= MOST_OF_EYE for one in thing])


def eye_of(eye):
    """EYE itself, or the even one where it is None."""
    if eye is None:
        return EVEN_EYE
    if not is_eye(eye):
        raise NoEye(eye)
    return eye


def gap_between(shade, other, eye):
    """How far two Shades are by an eye, in whatever terms."""
    # Lowest terms would cost more than all else where there are many figures.
    top = 0
    bottom = 1
    for one, two, many in zip(shares_of(shade), shares_of(other), eye):
        lack = one[0] * two[1] - two[0] * one[1]
        under = one[1] * two[1]
        top = top * under * under + many * lack * lack * bottom
        bottom = bottom * under * under
    return (top, bottom)


def far(shade, other, eye=None):
    """The squares of what the shares are apart, each so many times as EYE tells, together."""
    need_shade(shade)
    need_shade(other)
    top, bottom = gap_between(shade, other, eye_of(eye))
    return lowest(top, bottom)


def is_limit(thing):
    """Whether a thing of any kind is a fraction from the least to the greatest limit."""
    return is_fraction(thing) and not less(thing, LEAST_LIMIT) and not less(MOST_LIMIT, thing)


def need_limit(thing):
    """Refuse what is no limit."""
    if not is_limit(thing):
        raise NoLimit(thing)
