"""The checker: whether a claim with its paper is taken, of things of any kind.

A claim bears shades as plain tuples of three shares, and a Book as a rising tuple of names with such shades.
"""

from lightshares.books import MOST_NAMES, book_of, is_name
from lightshares.fractions import ONE, ZERO, alike, is_fraction, is_whole, less, weighed, what_more
from lightshares.lights import MOST_LIGHTS
from lightshares.nearness import is_eye, is_limit
from lightshares.prints import is_grade, is_step
from lightshares.rows import steps_between
from lightshares.shades import is_share, shade_of
from lightshares.sure import sure_names
from lightshares.walks import walk


def is_row_of(thing, least, most):
    """Whether a thing of any kind is a tuple of LEAST to MOST things."""
    return isinstance(thing, tuple) and least <= len(thing) <= most


def is_plain_shade(thing):
    """Whether a thing of any kind is a shade as a tuple of three shares."""
    return is_row_of(thing, 3, 3) and all([is_share(one) for one in thing])


def are_plain_lights(thing):
    """Whether a thing of any kind is a tuple of one to five such shades."""
    return is_row_of(thing, 1, MOST_LIGHTS) and all([is_plain_shade(one) for one in thing])


def is_page(thing):
    """Whether a thing of any kind is a name with its shade."""
    return is_row_of(thing, 2, 2) and is_name(thing[0]) and is_plain_shade(thing[1])


def is_named(thing):
    """Whether a thing of any kind is a rising tuple of names, no two alike, with their shades."""
    if not is_row_of(thing, 0, MOST_NAMES) or not all([is_page(one) for one in thing]):
        return False
    return all([one[0] < other[0] for one, other in zip(thing, thing[1:])])


def is_line(thing):
    """Whether a thing of any kind is a tuple of three weights and a number."""
    if not is_row_of(thing, 2, 2) or not is_row_of(thing[0], 3, 3):
        return False
    return all([is_fraction(one) for one in thing[0]]) and is_fraction(thing[1])


def is_stretch(thing):
    """Whether a thing of any kind is two fractions and a name."""
    return is_row_of(thing, 3, 3) and is_fraction(thing[0]) and is_fraction(thing[1]) and is_name(thing[2])


def are_names(thing, names):
    """Whether a thing of any kind is just this tuple of names."""
    return isinstance(thing, tuple) and all([is_name(one) for one in thing]) and thing == names


def are_stretches(thing, rows):
    """Whether a thing of any kind is just this tuple of stretches."""
    return isinstance(thing, tuple) and all([is_stretch(one) for one in thing]) and thing == rows


def are_shares(thing, many):
    """Whether a thing of any kind is a tuple of so many fractions from 0 on that are 1 together."""
    if not is_row_of(thing, many, many) or not all([is_fraction(one) and one[0] >= 0 for one in thing]):
        return False
    return alike(weighed(thing, (ONE,) * many), ONE)


def make_just(shares, lights, goal):
    """Whether a thing of any kind is shares by which the lights make the goal."""
    if not are_shares(shares, len(lights)):
        return False
    return all([alike(weighed(shares, [row[light] for row in lights]), goal[light]) for light in range(3)])


def pull(goal, near, row, eye):
    """How much the way from NEAR to a light leads on toward the goal, as the eye sees it."""
    ahead = [what_more(one, two) for one, two in zip(goal, near)]
    aside = [what_more(one, two) for one, two in zip(row, near)]
    return weighed([(many * top, bottom) for many, (top, bottom) in zip(eye, ahead)], aside)


def book_named(named, eye):
    """The Book of names with their shades as tuples."""
    return book_of(eye, {name: shade_of(shares) for name, shares in named})


def holds_made(parts, paper):
    """The lights make the goal by the shares of the paper."""
    lights, goal = parts
    return are_plain_lights(lights) and is_plain_shade(goal) and make_just(paper, lights, goal)


def holds_near(parts, paper):
    """The lights make NEAR by the shares of the paper, and nothing nearer to the goal."""
    lights, goal, eye, near = parts
    if not are_plain_lights(lights) or not is_plain_shade(goal) or not is_eye(eye) or not is_plain_shade(near):
        return False
    return make_just(paper, lights, near) and not any([less(ZERO, pull(goal, near, row, eye)) for row in lights])


def holds_out(parts, paper):
    """No light passes the line of the paper, and the goal does."""
    lights, goal = parts
    if not are_plain_lights(lights) or not is_plain_shade(goal) or not is_line(paper):
        return False
    weights, number = paper
    return less(number, weighed(weights, goal)) and not any([less(number, weighed(weights, row)) for row in lights])


def holds_called(parts, paper):
    """NAMES are the nearest names to the goal."""
    named, goal, eye, names = parts
    if paper is not None or not is_named(named) or not is_plain_shade(goal) or not is_eye(eye):
        return False
    return are_names(names, book_named(named, eye).called(shade_of(goal)))


def holds_steps(parts, paper):
    """There are just so many steps from one shade to the other."""
    start, end, limit, eye, steps = parts
    if paper is not None or not is_plain_shade(start) or not is_plain_shade(end):
        return False
    if not is_limit(limit) or not is_eye(eye) or not is_whole(steps):
        return False
    return steps == steps_between(shade_of(start), shade_of(end), limit, eye)


def holds_walk(parts, paper):
    """ROWS are the stretches of the names on the way from one shade to the other."""
    named, start, end, eye, rows = parts
    if paper is not None or not is_named(named) or not is_eye(eye):
        return False
    if not is_plain_shade(start) or not is_plain_shade(end):
        return False
    return are_stretches(rows, walk(book_named(named, eye), shade_of(start), shade_of(end)))


def holds_sure(parts, paper):
    """NAMES are the sure ones of three steps."""
    named, eye, steps, grade, names = parts
    if paper is not None or not is_named(named) or not is_eye(eye) or not is_grade(grade):
        return False
    if not is_row_of(steps, 3, 3) or not all([is_step(step, grade) for step in steps]):
        return False
    return are_names(names, sure_names(book_named(named, eye), steps, grade))


CHECKS = {
    "made": holds_made, "near": holds_near, "out": holds_out, "called": holds_called, "steps": holds_steps,
    "walk": holds_walk, "sure": holds_sure,
}
PARTS = {"made": 2, "near": 4, "out": 2, "called": 4, "steps": 5, "walk": 5, "sure": 5}


def holds(claim, paper):
    """Whether a claim with its paper is taken, whatever both are."""
    if not isinstance(claim, tuple) or len(claim) == 0:
        return False
    word, *parts = claim
    if not isinstance(word, str) or word not in CHECKS or len(parts) != PARTS[word]:
        return False
    check = CHECKS[word]
    return check(parts, paper)
