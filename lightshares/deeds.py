"""Small deeds that make one Shade of another."""

from lightshares.errors import NoDeed, NoPart, NoShade
from lightshares.fractions import ONE, ZERO, is_whole, minus, over, plus, times
from lightshares.shades import MOST_SHADES, are_shades, is_share, need_shade, shade_of, shares_of

MOST_DEEDS = 20
HALF = (1, 2)


def part_of(by):
    """BY itself, or a half where it is None."""
    if by is None:
        return HALF
    if not is_share(by):
        raise NoPart(by)
    return by


def toward(shade, goal, part):
    """The Shade each of whose shares has gone PART of its way to GOAL."""
    return shade_of([plus(share, times(part, minus(goal, share))) for share in shares_of(shade)])


def lighter(shade, by=None):
    """Each share gets BY times what it lacks to 1."""
    need_shade(shade)
    return toward(shade, ONE, part_of(by))


def darker(shade, by=None):
    """Each share loses BY times itself."""
    need_shade(shade)
    return toward(shade, ZERO, part_of(by))


def duller(shade, by=None):
    """Each share goes BY times its way to a third of all three."""
    need_shade(shade)
    part = part_of(by)
    together = plus(plus(shade.ember, shade.leaf), shade.sky)
    return toward(shade, over(together, (3, 1)), part)


def turned(shade, by=None):
    """Each share goes BY lights on, round and round."""
    need_shade(shade)
    if by is None:
        by = 1
    if not is_whole(by):
        raise NoPart(by)
    shares = shares_of(shade)
    return shade_of([shares[(light - by) % 3] for light in range(3)])


def opposite(shade):
    """Each share becomes what it lacks to 1."""
    return shade_of([minus(ONE, share) for share in shares_of(shade)])


BY_WORD = {"lighter": lighter, "darker": darker, "duller": duller, "turned": turned}


def is_by(word, thing):
    """Whether a thing of any kind may stand as BY behind a word that takes one."""
    if thing is None:
        return True
    if word == "turned":
        return is_whole(thing)
    return is_share(thing)


def is_deed(thing):
    """Whether a thing of any kind is a deed by name."""
    if not isinstance(thing, tuple) or len(thing) not in (1, 2):
        return False
    word = thing[0]
    if not isinstance(word, str):
        return False
    if word == "opposite":
        return len(thing) == 1
    return word in BY_WORD and (len(thing) == 1 or is_by(word, thing[1]))


def need_deeds(deeds):
    """Refuse what is no tuple of at most twenty deeds."""
    if not isinstance(deeds, tuple) or len(deeds) > MOST_DEEDS:
        raise NoDeed(None)
    for place, thing in enumerate(deeds):
        if not is_deed(thing):
            raise NoDeed(place)


def do_one(shade, deed):
    """The Shade that one deed by name makes."""
    if deed[0] == "opposite":
        return opposite(shade)
    change = BY_WORD[deed[0]]
    if len(deed) == 1:
        return change(shade)
    return change(shade, deed[1])


def done(shade, deeds):
    """The Shade that deeds by name make, one behind the other."""
    need_shade(shade)
    need_deeds(deeds)
    for deed in deeds:
        shade = do_one(shade, deed)
    return shade


def each(shades, deed):
    """What a deed of your own tells of each of a tuple of Shades, in turn."""
    if not are_shades(shades, 0, MOST_SHADES):
        raise NoShade(None)
    told = []
    for shade in shades:
        changed = deed(shade)
        need_shade(changed)
        told.append(changed)
    return tuple(told)
