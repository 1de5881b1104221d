"""Mixing Shades by weights."""

from lightshares.errors import NoShade, NoWeights
from lightshares.fractions import fraction, is_whole
from lightshares.shades import MOST_SHADES, are_shades, shade_of, shares_of

MOST_WEIGHT = 1000000


def is_weight(thing, least):
    """Whether a thing of any kind is a whole number from LEAST to the greatest weight."""
    return is_whole(thing) and least <= thing <= MOST_WEIGHT


def are_weights(thing, many):
    """Whether a thing of any kind is a tuple of so MANY weights, not all 0."""
    if not isinstance(thing, tuple) or len(thing) != many:
        return False
    return all([is_weight(one, 0) for one in thing]) and sum(thing) > 0


def mean_share(shares, weights):
    """All shares, each its weight times, divided by all weights."""
    # Lowest terms are sought once, at the end: with many figures they cost more than all else.
    top = 0
    bottom = 1
    for share, weight in zip(shares, weights):
        top = top * share[1] + weight * share[0] * bottom
        bottom = bottom * share[1]
    return fraction(top, bottom * sum(weights))


def mix(shades, weights=None):
    """The mix of one to sixty Shades, all weighing 1 where WEIGHTS is None."""
    if not are_shades(shades, 1, MOST_SHADES):
        raise NoShade(None)
    many = len(shades)
    if weights is None:
        weights = (1,) * many
    if not are_weights(weights, many):
        raise NoWeights(many)
    rows = [shares_of(shade) for shade in shades]
    return shade_of([mean_share([row[light] for row in rows], weights) for light in range(3)])
