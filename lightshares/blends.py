"""Blends: mixes that grow by what is put in."""

from lightshares.errors import EmptyMix, NoBlend, NoWeight
from lightshares.fractions import ZERO, figures, over, plus, times
from lightshares.mixing import is_weight
from lightshares.shades import need_shade, shade_of, shares_of


def added(shares, others):
    """Two rows of fractions added, light by light."""
    return tuple([plus(one, other) for one, other in zip(shares, others)])


class Blend:
    """Of what was put in: how many, all weights, and of each light all shares, each its weight times."""

    def __init__(self):
        self.many = 0
        self.weight = 0
        self.sums = (ZERO, ZERO, ZERO)

    def put(self, shade, weight=1):
        """Put a Shade in with a weight."""
        need_shade(shade)
        if not is_weight(weight, 1):
            raise NoWeight(weight)
        weighed = [times(share, (weight, 1)) for share in shares_of(shade)]
        self.sums = added(self.sums, weighed)
        self.weight += weight
        self.many += 1

    def joined(self, other):
        """A new Blend of all that both hold."""
        if not isinstance(other, Blend):
            raise NoBlend("only a Blend can be joined with a Blend")
        both = Blend()
        both.sums = added(self.sums, other.sums)
        both.weight = self.weight + other.weight
        both.many = self.many + other.many
        return both

    def total(self):
        """All weights together."""
        return self.weight

    def shade(self):
        """The mix of all that was put in."""
        if self.many == 0:
            raise EmptyMix("nothing was put in")
        return shade_of([over(one, (self.weight, 1)) for one in self.sums])

    def __eq__(self, other):
        # Where the totals are alike the mixes are just where these sums are.
        return isinstance(other, Blend) and self.weight == other.weight and self.sums == other.sums

    def __len__(self):
        return len(range(self.many))

    def __str__(self):
        if self.many == 0:
            return "nothing"
        return f"{figures(self.weight)} of {str(self.shade())}"

    def __repr__(self):
        return f"Blend({str(self)})"
