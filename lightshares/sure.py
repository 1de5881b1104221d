"""Sure names: those that are among the nearest whichever Shade a print was made of."""

from lightshares.books import need_book
from lightshares.prints import USUAL_GRADE, need_grade, need_steps, span_of
from lightshares.shades import Shade


def corners(steps, grade):
    """The eight Shades at the ends of what three steps can have been."""
    ember, leaf, sky = [span_of(step, grade)[:2] for step in steps]
    return [Shade(one, two, three) for one in ember for two in leaf for three in sky]


def sure_names(book, steps, grade=USUAL_GRADE):
    """The rising names that are among the nearest for every Shade that has these steps."""
    need_book(book)
    need_grade(grade)
    need_steps(steps, grade)
    # Of two names, the Shades to which the one is no farther lie all on one side of a plane, and so do all
    # between corners that lie there; an end that is out of a step is still come as near to as one likes.
    told = [book.called(corner) for corner in corners(steps, grade)]
    return tuple([name for name in told[0] if all([name in names for names in told])])
