"""Lights: what a few Shades make by shares, and the nearest to what they don't make.

Shades are reckoned with here as spots: three whole numbers, all over one bottom that isn't written along.
"""

from lightshares.errors import NoLights
from lightshares.fractions import common, lowest
from lightshares.nearness import EVEN_EYE, eye_of
from lightshares.shades import is_shade, need_shade, shade_of, shares_of

MOST_LIGHTS = 5
# More than this are never needed at once in a room of three lights.
MOST_AT_ONCE = 4


def need_lights(thing):
    """Refuse what is no tuple of one to five Shades."""
    if not isinstance(thing, tuple) or not 1 <= len(thing) <= MOST_LIGHTS:
        raise NoLights(None)
    for place, one in enumerate(thing):
        if not is_shade(one):
            raise NoLights(place)


def shared_bottom(rows):
    """The least bottom that all shares of these rows can bear."""
    bottom = 1
    for row in rows:
        for share in row:
            bottom = bottom // common(bottom, share[1]) * share[1]
    return bottom


def spot_over(shares, bottom):
    """The spot of three shares, over a bottom that all of them can bear."""
    return [share[0] * (bottom // share[1]) for share in shares]


def gone(start, end, times=1):
    """The way from a spot to another one that stands over a bottom so many times less."""
    return [times * two - one for one, two in zip(start, end)]


def product(one, other, eye):
    """What two ways have together: light by light the one times the other, so many times as EYE tells."""
    return sum([many * first * second for many, first, second in zip(eye, one, other)])


def determinant(rows):
    """The determinant of a square of whole numbers; 1 where there are none."""
    if len(rows) == 0:
        return 1
    total = 0
    sign = 1
    for place, number in enumerate(rows[0]):
        total += sign * number * determinant([row[:place] + row[place + 1:] for row in rows[1:]])
        sign = -sign
    return total


def tops_toward(spots, goal, eye):
    """The tops of shares, perhaps below 0, that make the spot nearest to GOAL; None where one spot is too many.

    All tops together are their bottom, which is above 0. By shares below 0, too, spots make all that lies on
    one line or plane with them, and the nearest on it is where the way on to GOAL stands upright to it.
    """
    edges = [gone(spots[0], spot) for spot in spots[1:]]
    table = [[product(one, other, eye) for other in edges] for one in edges]
    bottom = determinant(table)
    if bottom == 0:
        return None
    way = gone(spots[0], goal)
    wanted = [product(edge, way, eye) for edge in edges]
    # By Cramer's rule a column is exchanged; the table is the same by rows and by columns.
    tops = [determinant(table[:place] + [wanted] + table[place + 1:]) for place in range(len(edges))]
    return [bottom - sum(tops)] + tops


def sets_of(many):
    """All sets of one to four of so many places, the small ones first."""
    told = []
    grown = [[]]
    for size in range(min(many, MOST_AT_ONCE)):
        grown = [places + [place] for places in grown for place in range(many) if places == [] or places[-1] < place]
        told = told + grown
    return told


def spread(places, tops, many):
    """The tops at their places in a row of so many, 0 elsewhere."""
    row = [0] * many
    for place, top in zip(places, tops):
        row[place] = top
    return row


def made_by(tops, spots):
    """The spot that shares make, over their bottom times that of the spots."""
    return [sum([top * spot[light] for top, spot in zip(tops, spots)]) for light in range(3)]


def is_nearest(tops, spots, goal, eye):
    """Whether no other shares make a spot that is less far from GOAL."""
    near = made_by(tops, spots)
    part = sum(tops)
    more = gone(near, goal, part)
    return all([product(more, gone(near, spot, part), eye) <= 0 for spot in spots])


def nearest_tops(spots, goal, eye):
    """The tops of shares from 0 on, at most four of them above 0, that make the spot nearest to GOAL."""
    # The nearest lies within some set that has none too many, and is the nearest of all its line or plane, too.
    for places in sets_of(len(spots)):
        few = tops_toward([spots[place] for place in places], goal, eye)
        if few is not None and min(few) >= 0:
            tops = spread(places, few, len(spots))
            if is_nearest(tops, spots, goal, eye):
                return tops
    return None


def line_by(weights, spots, bottom):
    """The line (WEIGHTS, NUMBER) by these weights that spots over this bottom come up to and don't pass."""
    shared = common(common(abs(weights[0]), abs(weights[1])), abs(weights[2]))
    weights = [weight // shared for weight in weights]
    number = max([product(weights, spot, EVEN_EYE) for spot in spots])
    return (tuple([(weight, 1) for weight in weights]), lowest(number, bottom))


def make(lights, shade, eye=None):
    """What lights make nearest to a Shade: (SHARES, NEAR, LINE), LINE None where that is the Shade."""
    need_lights(lights)
    need_shade(shade)
    eye = eye_of(eye)
    rows = [shares_of(light) for light in lights]
    bottom = shared_bottom(rows + [shares_of(shade)])
    spots = [spot_over(row, bottom) for row in rows]
    goal = spot_over(shares_of(shade), bottom)
    tops = nearest_tops(spots, goal, eye)
    near = made_by(tops, spots)
    part = sum(tops)
    weights = [many * more for many, more in zip(eye, gone(near, goal, part))]
    line = None if weights == [0, 0, 0] else line_by(weights, spots, bottom)
    shares = tuple([lowest(top, part) for top in tops])
    return (shares, shade_of([lowest(one, part * bottom) for one in near]), line)


def can_make(lights, shade):
    """Whether some shares of the lights make the Shade."""
    return make(lights, shade)[2] is None
