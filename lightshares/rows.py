"""Rows: the fewest even steps from one Shade to another."""

from lightshares.errors import NoPlace
from lightshares.fractions import is_whole, lowest, over, root_above
from lightshares.nearness import far, need_limit
from lightshares.shades import need_shade, shade_of, shares_of


def part_way(shade, other, part):
    """The Shade at this PART, in whatever terms, of the way from one Shade to another."""
    shares = []
    for one, two in zip(shares_of(shade), shares_of(other)):
        top = one[0] * two[1] * (part[1] - part[0]) + two[0] * one[1] * part[0]
        shares.append(lowest(top, one[1] * two[1] * part[1]))
    return shade_of(shares)


def steps_between(shade, other, limit, eye=None):
    """The least number of steps, each at most LIMIT far, from one Shade to another."""
    need_shade(shade)
    need_shade(other)
    need_limit(limit)
    return root_above(over(far(shade, other, eye), limit))


class Row:
    """The Shades of the fewest even steps from one Shade to another, both among them."""

    def __init__(self, shade, other, limit, eye=None):
        steps = steps_between(shade, other, limit, eye)
        # Without any step the one Shade stands at no part of the way, which may bear any bottom.
        bottom = max(steps, 1)
        self.stations = tuple([part_way(shade, other, (place, bottom)) for place in range(steps + 1)])

    def at(self, place):
        """The Shade at a place, from 0 on."""
        if not is_whole(place) or not 0 <= place < len(self.stations):
            raise NoPlace(place)
        return self.stations[place]

    def shades(self):
        """All its Shades, as a list that is the asker's own."""
        return list(self.stations)

    def __eq__(self, other):
        return isinstance(other, Row) and self.stations == other.stations

    def __len__(self):
        return len(self.stations)

    def __str__(self):
        return " > ".join([str(shade) for shade in self.stations])

    def __repr__(self):
        return f"Row({str(self)})"
