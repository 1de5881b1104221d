"""Shades: of each of three lights, ember, leaf and sky, a share from none to all."""

from lightshares.errors import NoShade
from lightshares.fractions import is_fraction, written

MOST_SHADES = 60


def is_share(thing):
    """Whether a thing of any kind is a fraction from 0 to 1."""
    return is_fraction(thing) and 0 <= thing[0] <= thing[1]


class Shade:
    """Three shares, fractions from 0 to 1."""

    def __init__(self, ember, leaf, sky):
        for light, share in enumerate((ember, leaf, sky)):
            if not is_share(share):
                raise NoShade(light)
        self.ember = ember
        self.leaf = leaf
        self.sky = sky

    def __eq__(self, other):
        return isinstance(other, Shade) and shares_of(self) == shares_of(other)

    def __len__(self):
        return len([share for share in shares_of(self) if share[0] > 0])

    def __str__(self):
        return " ".join([written(share) for share in shares_of(self)])

    def __repr__(self):
        return f"Shade({str(self)})"


def is_shade(thing):
    """Whether a thing of any kind is a Shade."""
    return isinstance(thing, Shade)


def need_shade(thing):
    """Refuse what is no Shade."""
    if not is_shade(thing):
        raise NoShade(None)


def shares_of(shade):
    """The three shares of a Shade: ember, leaf, sky."""
    need_shade(shade)
    return (shade.ember, shade.leaf, shade.sky)


def shade_of(shares):
    """The Shade of three shares in a row."""
    ember, leaf, sky = shares
    return Shade(ember, leaf, sky)


def are_shades(thing, least, most):
    """Whether a thing of any kind is a tuple of LEAST to MOST Shades."""
    if not isinstance(thing, tuple) or not least <= len(thing) <= most:
        return False
    return all([is_shade(one) for one in thing])
