"""What claims say, reckoned anew with Python's own Fraction, to hold the checker and the papers against."""

from fractions import Fraction
from itertools import product
from math import gcd

LETTERS = "abcdefghijklmnopqrstuvwxyz"


def is_tuple(thing, *lengths):
    return type(thing) is tuple and len(thing) in lengths


def is_whole(thing, least, most):
    return type(thing) is int and least <= thing <= most


def is_fraction(thing):
    return is_tuple(thing, 2) and type(thing[0]) is int and type(thing[1]) is int and thing[1] >= 1 \
        and gcd(*thing) == 1


def is_share(thing):
    return is_fraction(thing) and 0 <= Fraction(*thing) <= 1


def is_plain_shade(thing):
    return is_tuple(thing, 3) and all(is_share(one) for one in thing)


def are_lights(thing):
    return is_tuple(thing, 1, 2, 3, 4, 5) and all(is_plain_shade(one) for one in thing)


def is_eye(thing):
    return is_tuple(thing, 3) and all(is_whole(one, 1, 99) for one in thing)


def is_name(thing):
    return type(thing) is str and 1 <= len(thing) <= 12 and all(sign in LETTERS for sign in thing)


def is_named(thing):
    if not is_tuple(thing, *range(25)):
        return False
    if not all(is_tuple(one, 2) and is_name(one[0]) and is_plain_shade(one[1]) for one in thing):
        return False
    names = [one[0] for one in thing]
    return names == sorted(set(names))


def worth(row):
    return [Fraction(*one) for one in row]


def weigh(one, other, eye=(1, 1, 1)):
    return sum(many * a * b for many, a, b in zip(eye, one, other))


def gone(start, end):
    return [b - a for a, b in zip(start, end)]


def gap(one, other, eye):
    way = gone(worth(one), worth(other))
    return weigh(way, way, eye)


def make_just(shares, lights, goal):
    if not is_tuple(shares, len(lights)) or not all(is_fraction(one) and one[0] >= 0 for one in shares):
        return False
    if sum(worth(shares)) != 1:
        return False
    rows = [worth(row) for row in lights]
    return [sum(share * row[light] for share, row in zip(worth(shares), rows)) for light in range(3)] == worth(goal)


def nearest(named, goal, eye):
    """The nearest names to a shade that may be told as Fractions."""
    gaps = {name: gap(shares, [(one.numerator, one.denominator) for one in goal], eye) for name, shares in named}
    return tuple(sorted(name for name in gaps if gaps[name] == min(gaps.values())))


def fewest_steps(gap_there, limit):
    """Doubling, then halving: the least number whose square is large enough."""
    low, high = -1, 1
    while high * high * limit < gap_there:
        high = high * 2
    while high - low > 1:
        middle = (low + high) // 2
        low, high = (low, middle) if middle * middle * limit >= gap_there else (middle, high)
    return high


def stretches(named, start, end, eye):
    """For each name the part of the way on which it is no farther than any other one."""
    rows = []
    for name, shares in named:
        low, high = Fraction(0), Fraction(1)
        for other, rivals in named:
            first = gap(shares, start, eye) - gap(rivals, start, eye)
            grown = gap(shares, end, eye) - gap(rivals, end, eye) - first
            if grown > 0:
                high = min(high, -first / grown)
            elif grown < 0:
                low = max(low, -first / grown)
            elif first > 0:
                low = Fraction(2)
        if low <= high:
            rows.append((low, high, name))
    pairs = [(low.as_integer_ratio(), high.as_integer_ratio(), name) for low, high, name in sorted(rows)]
    return tuple(pairs)


def sure(named, eye, steps, grade):
    ends = [(max(Fraction(2 * step - 1, 2 * grade), 0), min(Fraction(2 * step + 1, 2 * grade), 1)) for step in steps]
    corners = [[Fraction(share) for share in corner] for corner in product(*ends)]
    told = [nearest(named, corner, eye) for corner in corners]
    return tuple([name for name, shares in named if all(name in names for names in told)])


def is_true_of_lights(word, parts, paper):
    lights, goal, *more = parts
    if not are_lights(lights) or not is_plain_shade(goal):
        return False
    if word == "made":
        return make_just(paper, lights, goal)
    if word == "out":
        if not is_tuple(paper, 2) or not is_tuple(paper[0], 3) or not is_fraction(paper[1]):
            return False
        if not all(is_fraction(one) for one in paper[0]):
            return False
        number = Fraction(*paper[1])
        return weigh(worth(paper[0]), worth(goal)) > number \
            and all(weigh(worth(paper[0]), worth(row)) <= number for row in lights)
    eye, near = more
    if not is_eye(eye) or not is_plain_shade(near) or not make_just(paper, lights, near):
        return False
    ahead = gone(worth(near), worth(goal))
    return all(weigh(ahead, gone(worth(near), worth(row)), eye) <= 0 for row in lights)


def is_true_of_names(word, parts, paper):
    if word == "called":
        named, goal, eye, names = parts
        if not is_named(named) or not is_plain_shade(goal) or not is_eye(eye):
            return False
        return type(names) is tuple and names == nearest(named, worth(goal), eye)
    if word == "walk":
        named, start, end, eye, rows = parts
        if not is_named(named) or not is_plain_shade(start) or not is_plain_shade(end) or not is_eye(eye):
            return False
        return repr(rows) == repr(stretches(named, start, end, eye))
    named, eye, steps, grade, names = parts
    if not is_named(named) or not is_eye(eye) or not is_whole(grade, 1, 1000):
        return False
    if not is_tuple(steps, 3) or not all(is_whole(step, 0, grade) for step in steps):
        return False
    return type(names) is tuple and names == sure(named, eye, steps, grade)


def is_true_of_steps(parts, paper):
    start, end, limit, eye, steps = parts
    if not is_plain_shade(start) or not is_plain_shade(end) or not is_fraction(limit) or not is_eye(eye):
        return False
    if not Fraction(1, 1000) <= Fraction(*limit) <= 1000:
        return False
    return type(steps) is int and steps == fewest_steps(gap(start, end, eye), Fraction(*limit))


LENGTHS = {"made": 3, "near": 5, "out": 3, "called": 5, "steps": 6, "walk": 6, "sure": 6}


def is_true(claim, paper):
    """Whether a claim with its paper is as the document tells it, whatever both are."""
    if type(claim) is not tuple or len(claim) == 0 or type(claim[0]) is not str:
        return False
    word, *parts = claim
    if len(claim) != LENGTHS.get(word):
        return False
    if word in ("made", "near", "out"):
        return is_true_of_lights(word, parts, paper)
    if paper is not None:
        return False
    return is_true_of_steps(parts, paper) if word == "steps" else is_true_of_names(word, parts, paper)
