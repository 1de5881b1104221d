"""Prints: shares in whole steps of a grade."""

from lightshares.errors import NoGrade, NoStep
from lightshares.fractions import ONE, is_whole, lowest, nearest_whole, times
from lightshares.shades import need_shade, shares_of

USUAL_GRADE = 255
MOST_GRADE = 1000


def is_grade(thing):
    """Whether a thing of any kind is a grade."""
    return is_whole(thing) and 1 <= thing <= MOST_GRADE


def need_grade(thing):
    """Refuse what is no grade."""
    if not is_grade(thing):
        raise NoGrade(thing)


def is_step(thing, grade):
    """Whether a thing of any kind is a step of this grade."""
    return is_whole(thing) and 0 <= thing <= grade


def need_step(thing, grade):
    """Refuse what is no step of this grade."""
    if not is_step(thing, grade):
        raise NoStep(None)


def need_steps(thing, grade):
    """Refuse what is no tuple of three steps of this grade."""
    if not isinstance(thing, tuple) or len(thing) != 3:
        raise NoStep(None)
    for light, step in enumerate(thing):
        if not is_step(step, grade):
            raise NoStep(light)


def printed(shade, grade=USUAL_GRADE):
    """The three steps of a Shade."""
    need_shade(shade)
    need_grade(grade)
    return tuple([nearest_whole(times(share, (grade, 1))) for share in shares_of(shade)])


def span_of(step, grade=USUAL_GRADE):
    """The shares of a step: (LEAST, MOST, CLOSED), MOST itself among them where CLOSED is True."""
    need_grade(grade)
    need_step(step, grade)
    # Half a step lies on either side, but none beyond no share and all of it.
    least = lowest(max(2 * step - 1, 0), 2 * grade)
    if step == grade:
        return (least, ONE, True)
    return (least, lowest(2 * step + 1, 2 * grade), False)


def could_be(shade, steps, grade=USUAL_GRADE):
    """Whether a Shade has these three steps."""
    need_shade(shade)
    need_grade(grade)
    need_steps(steps, grade)
    return printed(shade, grade) == steps


def regraded(step, grade, other):
    """The least and the greatest step of the other grade that a share with this step can have."""
    need_grade(grade)
    need_grade(other)
    least, most = span_of(step, grade)[:2]
    first = nearest_whole(times(least, (other, 1)))
    # Where MOST is out a step that begins just there is out, too, hence the 1 less; none begins at 1.
    return (first, (2 * most[0] * other + most[1] - 1) // (2 * most[1]))
