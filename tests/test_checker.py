import random
import unittest
from fractions import Fraction

from lightshares.books import Book
from lightshares.checker import holds
from lightshares.papers import paper_called, paper_lights, paper_line, paper_steps, paper_sure, paper_walk
from lightshares.shades import Shade
from plain import is_plain_shade, is_true
from things import (
    A_ROW, BLACK, HOLDERS, NO_EYES, NO_FRACTIONS, NO_GRADES, NO_LIMITS, NO_SHADES, NO_SHARES, NO_WHOLES, SOME_SHADES,
    WHITE, a_blend, a_book, filled, no_steps, shade_at
)

ZERO, HALF, ONE = (0, 1), (1, 2), (1, 1)
BLACK_T, WHITE_T, GREY_T = (ZERO,) * 3, (ONE,) * 3, (HALF,) * 3
EMBER_T, LEAF_T, SKY_T = (ONE, ZERO, ZERO), (ZERO, ONE, ZERO), (ZERO, ZERO, ONE)
THIRD_T = ((1, 3),) * 3
EVEN = (1, 1, 1)
GREYS = (("black", BLACK_T), ("white", WHITE_T))

MADE = (("made", (BLACK_T, WHITE_T), GREY_T), (HALF, HALF))
NEAR = (("near", (BLACK_T, WHITE_T), EMBER_T, EVEN, THIRD_T), ((2, 3), (1, 3)))
OUT = (("out", (BLACK_T, WHITE_T), EMBER_T), ((ONE, (-1, 1), ZERO), ZERO))
CALLED = (("called", GREYS, EMBER_T, EVEN, ("black",)), None)
STEPS = (("steps", BLACK_T, WHITE_T, HALF, EVEN, 3), None)
WALK = (("walk", GREYS, BLACK_T, WHITE_T, EVEN, ((ZERO, HALF, "black"), (HALF, ONE, "white"))), None)
SURE = (("sure", GREYS, EVEN, (0, 0, 0), 1, ("black",)), None)
RIGHT = [MADE, NEAR, OUT, CALLED, STEPS, WALK, SURE]

ANY_KIND = [
    None, True, False, 0, 1, -1, 10 ** 59, "", "made", "near", "walk", "black", b"made", [], ["made"], (), (1,),
    ("made",),
    (None,), ((),), ({},), {}, {"made": 1}, {1: {2: [3]}}, {"made"}, frozenset(), object(), len, Shade,
    ValueError("made"),
    ZERO, ONE, HALF, BLACK_T, (BLACK_T, WHITE_T), GREYS, BLACK, WHITE, SOME_SHADES[7], (BLACK, WHITE), a_book(), Book(),
    A_ROW, a_blend(), (a_book(), A_ROW), [[[[[[[[[[1]]]]]]]]]], ((((((((((1,),),),),),),),),),), range(3), 3 + 0j,
    lambda claim: True,
] + HOLDERS


class AlwaysAlike:
    """A thing that says of everything that it is alike."""

    def __eq__(self, other):
        return True

    def __hash__(self):
        return hash("made")


class Quarrelsome:
    """A thing that can't be compared, counted, hashed or asked for its truth."""

    def __eq__(self, other):
        raise RuntimeError

    def __len__(self):
        raise RuntimeError

    def __hash__(self):
        raise RuntimeError

    def __bool__(self):
        raise RuntimeError

    def __iter__(self):
        raise RuntimeError


def put_at(tree, path, thing):
    """The tree of tuples with another thing at the end of the path."""
    if not path:
        return thing
    return tree[:path[0]] + (put_at(tree[path[0]], path[1:], thing),) + tree[path[0] + 1:]


def paths_of(tree):
    """All paths into a tree of tuples, with what stands there."""
    yield (), tree
    if type(tree) is tuple:
        for place, branch in enumerate(tree):
            for path, thing in paths_of(branch):
                yield (place,) + path, thing


def bent(thing):
    """Other things, much like this one."""
    if type(thing) is int:
        return [thing + 1, thing - 1, -thing, 0, 1, 2, 99, 100, 1000, 1001, True, False, str(thing), None, (thing,),
                (thing, 1), [thing], 10 ** 59]
    if type(thing) is str:
        return [thing + "a", thing[:-1], thing.upper(), "", "a", "zz", "abcdefghijklm", thing + " ", thing + "\n",
                thing.encode(), None, (thing,), list(thing), "made", "near", "out", "called", "steps", "walk", "sure"]
    if thing is None:
        return [(), False, True, 0, "", [], "none", (None,), (HALF, HALF), ((ZERO, ONE, ONE), ONE)]
    others = [list(thing), thing[:-1], thing[1:], thing[::-1], thing + thing[-1:], thing[:1] + thing, thing + (None,),
              (), None, (thing,), [thing], {}, dict(enumerate(thing)), repr(thing), thing * 30]
    if len(thing) == 2 and type(thing[0]) is int:
        top, bottom = thing
        others += [(2 * top, 2 * bottom), (-top, -bottom), (top, 0), (0, bottom), (bottom, top), (True, True),
                   (0, True),
                   (False, 1), top, (top * 1000 + 1, bottom * 1000), (-top, bottom), HALF, ZERO, ONE]
    if is_plain_shade(thing):
        others += [Shade(*thing), BLACK_T, WHITE_T, EMBER_T, ((-1, 2),) + thing[1:], thing[:2] + ((3, 2),)]
    return others


def some_claims():
    """Claims that are true, with their papers, of ordinary things."""
    source = random.Random(21)
    for trial in range(6):
        lights = tuple([SOME_SHADES[source.randrange(125)] for light in range(1 + trial % 5)])
        shade, other = SOME_SHADES[source.randrange(125)], SOME_SHADES[source.randrange(125)]
        eye = tuple([source.randrange(1, 100) for light in range(3)])
        yield paper_lights(lights, shade, eye)
        yield paper_lights(lights, lights[-1])
        yield paper_line(lights, shade_at(Fraction(1, 5), Fraction(1, 7), Fraction(trial, 9)))
        book = filled([("x" * (1 + place), SOME_SHADES[(place * 37 + trial) % 125]) for place in range(trial)], eye)
        yield paper_called(book, shade)
        yield paper_steps(shade, other, (1, 1 + trial), eye)
        yield paper_walk(book, shade, other)
        yield paper_sure(book, (trial, 2, 0), 5)


class Held(unittest.TestCase):
    def taken(self, claim, paper):
        told = holds(claim, paper)
        self.assertIs(type(told), bool)
        return told

    def assert_taken(self, claim, paper):
        self.assertTrue(self.taken(claim, paper), (claim, paper))

    def assert_left(self, claim, paper):
        self.assertFalse(self.taken(claim, paper), (claim, paper))

    def assert_places_left(self, right, path, things):
        """Whatever of these stands at the path, the claim isn't taken any more."""
        self.assert_taken(*right)
        for thing in things:
            with self.subTest(repr(thing)):
                self.assert_left(*put_at(right, path, thing))


class Right(Held):
    def test_a_right_claim_of_each_word(self):
        for claim, paper in RIGHT:
            self.assert_taken(claim, paper)
        self.assertIs(holds(paper=MADE[1], claim=MADE[0]), True)

    def test_with_the_paper_of_another(self):
        for claim, paper in RIGHT:
            for other, another in RIGHT:
                self.assertIs(self.taken(claim, another), is_true(claim, another))
                if paper != another:
                    self.assert_left(claim, another)

    def test_another_word_ahead(self):
        for claim, paper in RIGHT:
            for word in ("made", "near", "out", "called", "steps", "walk", "sure", "shade", "MADE", "made ", "",
                         b"made",
                         None, 0, ["made"], ("made",), {}, BLACK, Book()):
                other = (word,) + claim[1:]
                self.assertIs(self.taken(other, paper), type(word) is str and is_true(other, paper))

    def test_a_part_more_or_fewer(self):
        for claim, paper in RIGHT:
            for other in (claim[:-1], claim + (None,), claim + claim[-1:], claim[:1], claim[1:], (), (claim,),
                          list(claim)):
                self.assert_left(other, paper)

    def test_papers_where_there_is_none(self):
        for claim, paper in (CALLED, STEPS, WALK, SURE):
            for thing in ANY_KIND[1:]:
                self.assert_left(claim, thing)


class Shares(Held):
    def test_shares_that_do_not_make_it(self):
        lights = (BLACK_T, WHITE_T, EMBER_T)
        claim = ("made", lights, GREY_T)
        self.assert_taken(claim, (HALF, HALF, ZERO))
        for paper in ((HALF, (1, 3), (1, 6)), ((1, 4), (1, 4), HALF), (ZERO, ONE, ZERO), (HALF, ZERO, HALF),
                      (ZERO, HALF, ZERO), (ONE, HALF, ZERO), ((3, 4), HALF, (-1, 4)), (HALF, HALF),
                      (HALF, HALF, ZERO, ZERO),
                      (HALF, (2, 4), ZERO), (HALF, HALF, (0, 2)), (HALF, HALF, 0), (HALF, HALF, False),
                      (HALF, HALF, None),
                      [HALF, HALF, ZERO], (list(HALF), HALF, ZERO), (HALF, HALF, (False, 1)), (HALF, HALF, (0, True)),
                      (),
                      None, 1, "1/2 1/2 0", Shade(HALF, HALF, ZERO), {0: HALF, 1: HALF, 2: ZERO}):
            self.assert_left(claim, paper)

    def test_a_share_below_0_that_would_make_it(self):
        # Two shares that are 1 together and lead to the goal, but beyond the lights.
        self.assert_left(("made", (BLACK_T, GREY_T), WHITE_T), ((-1, 1), (2, 1)))
        self.assert_left(("near", (BLACK_T, GREY_T), WHITE_T, EVEN, WHITE_T), ((-1, 1), (2, 1)))
        self.assert_left(("made", (BLACK_T, WHITE_T, WHITE_T), GREY_T), (HALF, ONE, (-1, 2)))

    def test_shares_that_are_not_1_together(self):
        # Black adds nothing, so the shade comes out right all the same.
        self.assert_taken(("made", (BLACK_T, WHITE_T), GREY_T), (HALF, HALF))
        self.assert_left(("made", (BLACK_T, WHITE_T), GREY_T), (ZERO, HALF))
        self.assert_left(("made", (BLACK_T, WHITE_T), GREY_T), (ONE, HALF))
        self.assert_left(("made", (BLACK_T,), BLACK_T), (HALF,))
        self.assert_left(("made", (BLACK_T,), BLACK_T), (ZERO,))
        self.assert_taken(("made", (BLACK_T,), BLACK_T), (ONE,))

    def test_each_light_counts(self):
        for light in range(3):
            goal = put_at(GREY_T, (light,), (1, 3))
            self.assert_left(("made", (BLACK_T, WHITE_T), goal), (HALF, HALF))
            self.assert_left(("near", (BLACK_T, WHITE_T), GREY_T, EVEN, goal), (HALF, HALF))

    def test_five_shares_above_0_make_it_too(self):
        lights = (BLACK_T, WHITE_T, EMBER_T, LEAF_T, SKY_T)
        self.assert_taken(("made", lights, ((2, 5),) * 3), ((1, 5),) * 5)

    def test_one_to_five_lights(self):
        for many in range(1, 6):
            self.assert_taken(("made", (GREY_T,) * many, GREY_T), ((1, many),) * many)
        self.assert_left(("made", (GREY_T,) * 6, GREY_T), ((1, 6),) * 6)
        self.assert_left(("made", (), GREY_T), ())
        self.assert_left(("near", (GREY_T,) * 6, GREY_T, EVEN, GREY_T), ((1, 6),) * 6)
        self.assert_left(("out", (BLACK_T,) * 6, GREY_T), ((ONE, ZERO, ZERO), ZERO))
        self.assert_left(("out", (), GREY_T), ((ONE, ZERO, ZERO), ZERO))

    def test_lights_and_goals_that_are_none(self):
        for right in (MADE, NEAR, OUT):
            for thing in NO_SHARES:
                for path in ((0, 1, 0, 1), (0, 2, 0)):
                    with self.subTest(repr(thing)):
                        self.assert_left(*put_at(right, path, thing))
            for thing in [one for one in NO_SHADES if not is_plain_shade(one)] + [BLACK, WHITE, (ZERO,) * 2,
                                                                                  (ZERO,) * 4]:
                for path in ((0, 1, 0), (0, 1, 1), (0, 2), (0, 1)):
                    with self.subTest(repr(thing)):
                        self.assert_left(*put_at(right, path, thing))


class Near(Held):
    def test_the_nearest_by_the_eye(self):
        lights = (EMBER_T, LEAF_T)
        near = ((1, 4), (3, 4), ZERO)
        self.assert_taken(("near", lights, WHITE_T, (1, 3, 1), near), ((1, 4), (3, 4)))
        self.assert_taken(("near", lights, WHITE_T, (33, 99, 7), near), ((1, 4), (3, 4)))
        for eye in ((1, 1, 1), (3, 1, 1), (1, 2, 1), (1, 4, 1)):
            self.assert_left(("near", lights, WHITE_T, eye, near), ((1, 4), (3, 4)))

    def test_one_that_is_not_the_nearest(self):
        for tops in ((1, 0), (0, 1), (1, 1), (3, 1), (1, 2), (200, 101), (200, 99)):
            shares = tuple([Fraction(top, sum(tops)).as_integer_ratio() for top in tops])
            near = (shares[1],) * 3
            claim = ("near", (BLACK_T, WHITE_T), EMBER_T, EVEN, near)
            self.assert_left(claim, shares)
        self.assert_taken(*NEAR)

    def test_near_where_it_is_made(self):
        self.assert_taken(("near", (BLACK_T, WHITE_T), GREY_T, EVEN, GREY_T), (HALF, HALF))
        self.assert_taken(("near", (BLACK_T, WHITE_T), WHITE_T, (99, 1, 1), WHITE_T), (ZERO, ONE))

    def test_what_is_no_eye(self):
        self.assert_places_left(NEAR, (0, 3), NO_EYES + [None])

    def test_a_nearest_that_is_no_shade(self):
        self.assert_places_left(NEAR, (0, 4), [one for one in NO_SHADES if not is_plain_shade(one)] + [WHITE])
        self.assert_places_left(NEAR, (0, 4, 1), NO_SHARES)


class Line(Held):
    def test_a_line_that_a_light_passes_or_the_shade_does_not(self):
        self.assert_taken(*OUT)
        claim = OUT[0]
        for line in (((ONE, ZERO, ZERO), ZERO), ((ONE, (-1, 1), ZERO), ONE), ((ONE, (-1, 1), ZERO), (3, 2)),
                     ((ONE, ZERO, ZERO), ONE), (((-1, 1), ONE, ZERO), ZERO), ((ZERO, ZERO, ZERO), ZERO),
                     ((ONE, (-1, 1), ZERO), (-1, 100)), ((ZERO, ONE, ZERO), ZERO), ((ZERO, ZERO, ZERO), (-1, 1))):
            self.assert_left(claim, line)
        for line in (((ONE, (-1, 1), ZERO), HALF), ((ONE, ZERO, (-1, 1)), ZERO), (((2, 3), (-1, 3), (-1, 3)), ZERO),
                     ((ONE, (-1, 1), ZERO), (99, 100)), (((100, 1), (-100, 1), ZERO), (99, 1))):
            self.assert_taken(claim, line)

    def test_each_of_the_lights_counts(self):
        lights = (BLACK_T, SKY_T, LEAF_T, ((1, 3), ZERO, ZERO), (HALF, ONE, ONE))
        line = ((ONE, ZERO, ZERO), HALF)
        self.assert_taken(("out", lights, EMBER_T), line)
        for place in range(5):
            self.assert_left(("out", put_at(lights, (place,), ((501, 1000), ZERO, ZERO)), EMBER_T), line)

    def test_what_the_lights_make_is_never_out(self):
        for line in (((ONE, ZERO, ZERO), ZERO), (((-1, 1), ZERO, ZERO), (-1, 1)), ((ONE, ONE, ONE), (3, 1))):
            self.assert_left(("out", (BLACK_T, WHITE_T), GREY_T), line)
            self.assert_left(("out", (BLACK_T, WHITE_T), WHITE_T), line)

    def test_what_is_no_line(self):
        for thing in NO_FRACTIONS:
            for path in ((1, 1), (1, 0, 0), (1, 0, 2)):
                with self.subTest(repr(thing)):
                    self.assert_left(*put_at(OUT, path, thing))
        weights, number = OUT[1]
        self.assert_places_left(OUT, (1,), [
            None, (), (weights,), (weights, number, None), (number, weights), [weights, number],
            (list(weights), number),
            (weights[:2], number), (weights + (ZERO,), number), (weights, [0, 1]), weights, number, WHITE,
            (Shade(ONE, ZERO, ZERO), number), weights + number])


class Names(Held):
    def test_the_nearest_names(self):
        named = (("a", BLACK_T), ("b", WHITE_T), ("c", BLACK_T), ("d", GREY_T))
        self.assert_taken(("called", named, BLACK_T, EVEN, ("a", "c")), None)
        self.assert_taken(("called", named, ((1, 4),) * 3, EVEN, ("a", "c", "d")), None)
        for names in ((), ("a",), ("c",), ("c", "a"), ("a", "a", "c"), ("a", "c", "c"), ("a", "b", "c"),
                      ("a", "c", "d"),
                      ("a", "c", "x"), ["a", "c"], "ac", "a c", None, {"a": 1, "c": 1}, ("a", b"c"), ("a", None),
                      (("a", "c"),)):
            self.assert_left(("called", named, BLACK_T, EVEN, names), None)

    def test_no_names_at_all(self):
        self.assert_taken(("called", (), GREY_T, EVEN, ()), None)
        self.assert_taken(("walk", (), GREY_T, WHITE_T, EVEN, ()), None)
        self.assert_taken(("sure", (), EVEN, (0, 0, 0), 1, ()), None)
        for names in (None, [], "", 0, False, {}, ("a",), ((),)):
            self.assert_left(("called", (), GREY_T, EVEN, names), None)
            self.assert_left(("walk", (), GREY_T, WHITE_T, EVEN, names), None)
            self.assert_left(("sure", (), EVEN, (0, 0, 0), 1, names), None)

    def test_the_eye_decides(self):
        named = (("e", EMBER_T), ("l", LEAF_T))
        goal = ((3, 5), (2, 5), ZERO)
        self.assert_taken(("called", named, goal, EVEN, ("e",)), None)
        near = (("e", ((2, 5), ZERO, ZERO)), ("l", (ZERO, HALF, ZERO)))
        self.assert_taken(("called", near, BLACK_T, EVEN, ("e",)), None)
        self.assert_taken(("called", near, BLACK_T, (2, 1, 1), ("l",)), None)
        self.assert_taken(("called", near, BLACK_T, (25, 16, 1), ("e", "l")), None)
        self.assert_left(("called", near, BLACK_T, (2, 1, 1), ("e",)), None)

    def test_numbers_of_names(self):
        rows = tuple([("n" + chr(97 + place), BLACK_T) for place in range(26)])
        for many in (0, 1, 2, 23, 24, 25, 26):
            names = tuple([row[0] for row in rows[:many]])
            for claim in (("called", rows[:many], GREY_T, EVEN, names),
                          ("sure", rows[:many], EVEN, (0, 0, 0), 1, names),
                          ("walk", rows[:many], GREY_T, WHITE_T, EVEN, tuple([(ZERO, ONE, name) for name in names]))):
                self.assertIs(self.taken(claim, None), many <= 24)

    def test_names_that_do_not_rise_or_stand_twice(self):
        for named in ((("white", WHITE_T), ("black", BLACK_T)), (("black", BLACK_T), ("black", BLACK_T)),
                      (("black", BLACK_T), ("black", WHITE_T)),
                      (("black", BLACK_T), ("black", WHITE_T), ("white", WHITE_T)),
                      (("b", BLACK_T), ("c", WHITE_T), ("bb", WHITE_T))):
            first = tuple(sorted({name for name, shares in named if shares == BLACK_T}))
            self.assert_left(("called", named, BLACK_T, EVEN, first), None)
            self.assert_left(("sure", named, EVEN, (0, 0, 0), 1, first), None)
            self.assert_left(("walk", named, BLACK_T, BLACK_T, EVEN, tuple([(ZERO, ONE, one) for one in first])), None)

    def test_what_is_no_name_or_no_shade_in_them(self):
        for thing in ("", "Black", "bla ck", "black\n", "b1", "abcdefghijklm", None, 0, b"black", ("black",),
                      ["black"], {}):
            for right, path in ((CALLED, (0, 1, 0, 0)), (WALK, (0, 1, 0, 0)), (SURE, (0, 1, 0, 0)), (CALLED, (0, 4, 0)),
                                (SURE, (0, 5, 0)), (WALK, (0, 5, 0, 2))):
                with self.subTest(repr((thing, path))):
                    self.assert_left(*put_at(right, path, thing))
        # Told alike on both sides it is still no name.
        for thing in ("", "Black", "bla ck", "b1", "abcdefghijklm", None, 0, b"black", ("black",)):
            named = ((thing, BLACK_T),)
            self.assert_left(("called", named, EMBER_T, EVEN, (thing,)), None)
            self.assert_left(("sure", named, EVEN, (0, 0, 0), 1, (thing,)), None)
            self.assert_left(("walk", named, BLACK_T, WHITE_T, EVEN, ((ZERO, ONE, thing),)), None)
        for right in (CALLED, WALK, SURE):
            self.assert_places_left(right, (0, 1, 0, 1, 0), NO_SHARES)
            self.assert_places_left(right, (0, 1, 1, 1), [BLACK, WHITE, None, list(WHITE_T), WHITE_T[:2], WHITE_T * 2,
                                                          "1 1 1"])
            self.assert_places_left(right, (0, 1), [
                list(GREYS), dict(GREYS), a_book(), Book(), None, "black", GREYS[0], (list(GREYS[0]),),
                (GREYS[0] + (1,),),
                tuple([tuple(reversed(row)) for row in GREYS]), (("black",), ("white",))])

    def test_eyes_goals_and_ends_that_are_none(self):
        for right, path in ((CALLED, (0, 3)), (STEPS, (0, 4)), (WALK, (0, 4)), (SURE, (0, 2))):
            self.assert_places_left(right, path, NO_EYES + [None])
        for right, path in ((CALLED, (0, 2)), (STEPS, (0, 1)), (STEPS, (0, 2)), (WALK, (0, 2)), (WALK, (0, 3))):
            self.assert_places_left(right, path + (1,), NO_SHARES)
            things = [one for one in NO_SHADES if not is_plain_shade(one)] + [BLACK, WHITE, WHITE_T[:2],
                                                                              WHITE_T + (ONE,)]
            self.assert_places_left(right, path, things)


class Steps(Held):
    def test_a_step_more_or_fewer(self):
        for limit, steps in ((HALF, 3), ((3, 1), 1), ((1, 3), 3), ((3, 4), 2), ((299, 400), 3), ((1, 1000), 55),
                             ((1000, 1), 1)):
            for told in range(steps - 3, steps + 4):
                self.assertIs(self.taken(("steps", BLACK_T, WHITE_T, limit, EVEN, told), None), told == steps)
        for told in range(-1, 3):
            self.assertIs(self.taken(("steps", GREY_T, GREY_T, HALF, EVEN, told), None), told == 0)

    def test_truths_and_others_for_the_number(self):
        self.assert_taken(("steps", BLACK_T, WHITE_T, (3, 1), EVEN, 1), None)
        self.assert_taken(("steps", BLACK_T, BLACK_T, (3, 1), EVEN, 0), None)
        for thing in NO_WHOLES + [(1, 1), (0, 1), "1", "0", -1, 10 ** 59]:
            self.assert_left(("steps", BLACK_T, WHITE_T, (3, 1), EVEN, thing), None)
            self.assert_left(("steps", BLACK_T, BLACK_T, (3, 1), EVEN, thing), None)

    def test_bounds_of_the_limit(self):
        self.assert_places_left(STEPS, (0, 3), NO_LIMITS)
        self.assert_taken(("steps", GREY_T, GREY_T, (1, 1000), EVEN, 0), None)
        self.assert_taken(("steps", GREY_T, GREY_T, (1000, 1), EVEN, 0), None)
        for limit in NO_LIMITS:
            self.assert_left(("steps", GREY_T, GREY_T, limit, EVEN, 0), None)

    def test_bounds_of_the_eye(self):
        self.assert_taken(("steps", BLACK_T, WHITE_T, (1000, 1), (99, 99, 99), 1), None)
        self.assert_taken(("steps", BLACK_T, WHITE_T, (1, 1), (99, 99, 99), 18), None)
        self.assert_left(("steps", BLACK_T, WHITE_T, (1000, 1), (99, 99, 100), 1), None)
        self.assert_left(("steps", BLACK_T, WHITE_T, (1000, 1), (0, 1, 1), 1), None)


class Walks(Held):
    def test_a_stretch_bent_at_an_end(self):
        bend = (1, 10 ** 30)
        for path in ((0, 5, 0, 0), (0, 5, 0, 1), (0, 5, 1, 0), (0, 5, 1, 1)):
            there = WALK
            for place in path:
                there = there[place]
            for lean in (Fraction(*bend), -Fraction(*bend)):
                self.assert_left(*put_at(WALK, path, (Fraction(*there) + lean).as_integer_ratio()))
            self.assert_left(*put_at(WALK, path, (there[0] * 2, there[1] * 2)))
            self.assert_left(*put_at(WALK, path, list(there)))

    def test_truths_for_0_and_1(self):
        for path, thing in (((0, 5, 0, 0), (False, 1)), ((0, 5, 0, 0), (0, True)), ((0, 5, 1, 1), (True, 1)),
                            ((0, 5, 1, 1), (1, True)), ((0, 5, 0, 0), 0), ((0, 5, 1, 1), 1), ((0, 5, 1, 1), True)):
            self.assert_left(*put_at(WALK, path, thing))

    def test_rows_missing_twice_or_turned(self):
        rows = WALK[0][5]
        self.assert_places_left(WALK, (0, 5), [
            (), rows[:1], rows[1:], rows[::-1], rows + rows[:1], rows[:1] + rows, list(rows),
            tuple([list(row) for row in rows]),
            tuple([row[:2] for row in rows]), tuple([row + (None,) for row in rows]), None, "rows", rows[0],
            tuple([(row[2], row[0], row[1]) for row in rows]), rows + ((ONE, ONE, "white"),),
            ((ZERO, HALF, "white"), (HALF, ONE, "black"))])

    def test_a_stretch_of_one_place(self):
        named = (("left", BLACK_T), ("right", EMBER_T), ("top", (HALF, HALF, ZERO)))
        rows = ((ZERO, HALF, "left"), (HALF, HALF, "top"), (HALF, ONE, "right"))
        self.assert_taken(("walk", named, BLACK_T, EMBER_T, EVEN, rows), None)
        self.assert_left(("walk", named, BLACK_T, EMBER_T, EVEN, rows[::2]), None)
        self.assert_left(("walk", named, BLACK_T, EMBER_T, EVEN, (rows[0], rows[2], rows[1])), None)


class SureNames(Held):
    def test_grades_and_steps(self):
        self.assert_taken(("sure", GREYS, EVEN, (127, 127, 127), 255, ("black",)), None)
        self.assert_taken(("sure", GREYS, EVEN, (1000, 1000, 1000), 1000, ("white",)), None)
        self.assert_taken(("sure", GREYS, EVEN, (1, 0, 0), 1, ()), None)
        for names in (("white",), ("black", "white"), ("black",)):
            self.assert_left(("sure", GREYS, EVEN, (1, 0, 0), 1, names), None)
        self.assert_left(("sure", GREYS, EVEN, (0, 0, 0), 1, ()), None)

    def test_grades_that_are_none(self):
        self.assert_places_left(SURE, (0, 4), NO_GRADES)
        self.assert_left(("sure", GREYS, EVEN, (0, 0, 0), 1001, ("black",)), None)

    def test_steps_that_are_none(self):
        for grade in (1, 255):
            right = put_at(SURE, (0, 4), grade)
            for light in range(3):
                self.assert_places_left(right, (0, 3, light), no_steps(grade))
            self.assert_places_left(right, (0, 3), NO_WHOLES + [(0, 0), (0, 0, 0, 0), [0, 0, 0], "000", BLACK_T, BLACK])


class AnyKind(Held):
    def test_things_of_any_kind_as_claim_and_as_paper(self):
        for claim in ANY_KIND:
            for paper in ANY_KIND:
                self.assert_left(claim, paper)

    def test_things_of_any_kind_behind_each_word(self):
        for claim, paper in RIGHT:
            for place in range(1, len(claim)):
                for thing in ANY_KIND:
                    bent_claim = put_at(claim, (place,), thing)
                    self.assertIs(self.taken(bent_claim, paper), is_true(bent_claim, paper))
            for thing in ANY_KIND:
                self.assertIs(self.taken(claim, thing), is_true(claim, thing))

    def test_things_that_mislead_or_quarrel(self):
        for thing in (AlwaysAlike(), Quarrelsome()):
            self.assert_left(thing, None)
            self.assert_left((thing,), None)
            for right in RIGHT:
                for path, there in paths_of(right):
                    if path:
                        self.assert_left(*put_at(right, path, thing))

    def test_each_thing_within_bent_a_little(self):
        told = []
        for right in RIGHT + list(some_claims()):
            self.assert_taken(*right)
            self.assertTrue(is_true(*right))
            for path, there in paths_of(right):
                if path:
                    for thing in bent(there):
                        claim, paper = put_at(right, path, thing)
                        told.append(self.taken(claim, paper))
                        self.assertIs(told[-1], is_true(claim, paper), (claim, paper))
        # Both come up, so the claims weren't all bent too far, nor too little.
        self.assertGreater(told.count(True), 500)
        self.assertGreater(told.count(False), 5000)

    def test_asking_changes_nothing(self):
        named = [("black", BLACK_T)]
        claim = ("called", named, BLACK_T, EVEN, ("black",))
        ahead = repr(claim)
        self.assert_left(claim, None)
        self.assertEqual(repr(claim), ahead)
        for right in RIGHT:
            ahead = repr(right)
            self.assertIs(holds(*right), holds(*right))
            self.assertEqual(repr(right), ahead)


if __name__ == "__main__":
    unittest.main()
