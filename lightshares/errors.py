"""The refusals: three bases, and under one of them a class for each refusal.

Their words never hold what was handed in, since that may be too long or too deep to be shown.
"""


class ShadeError(ValueError):
    """Something about shades, their shares or how they are written isn't as asked."""


class MixError(ArithmeticError):
    """Something about mixing and its weights isn't as asked."""


class BookError(LookupError):
    """Something about books and the names in them isn't as asked."""


class NoNumber(ShadeError):
    def __init__(self, place):
        ShadeError.__init__(self, "this is no number that can be reckoned with here")
        self.place = place


class NoShade(ShadeError):
    def __init__(self, light):
        ShadeError.__init__(self, "this is no shade, or no share of one")
        self.light = light


class NoPart(ShadeError):
    def __init__(self, part):
        ShadeError.__init__(self, "this is no part that can be taken here")
        self.part = part


class NoDeed(ShadeError):
    def __init__(self, place):
        ShadeError.__init__(self, "these are no deeds")
        self.place = place


class NoTurn(ShadeError):
    def __init__(self, part):
        ShadeError.__init__(self, "there is no such place on the wheel")
        self.part = part


class NoWay(ShadeError):
    def __init__(self, way):
        ShadeError.__init__(self, "there is no such way of writing")
        self.way = way


class NoText(ShadeError):
    def __init__(self, row):
        ShadeError.__init__(self, "this is not so written")
        self.row = row


class NoGrade(ShadeError):
    def __init__(self, grade):
        ShadeError.__init__(self, "a grade is a whole number from 1 to 1000")
        self.grade = grade


class NoStep(ShadeError):
    def __init__(self, light):
        ShadeError.__init__(self, "there is no such step of this grade")
        self.light = light


class NoEye(ShadeError):
    def __init__(self, eye):
        ShadeError.__init__(self, "an eye is three whole numbers from 1 to 99")
        self.eye = eye


class NoLimit(ShadeError):
    def __init__(self, limit):
        ShadeError.__init__(self, "a limit is a fraction from 1/1000 to 1000")
        self.limit = limit


class NoPlace(ShadeError):
    def __init__(self, place):
        ShadeError.__init__(self, "there is no such place in this row")
        self.place = place


class NoLights(ShadeError):
    def __init__(self, place):
        ShadeError.__init__(self, "lights are one to five shades")
        self.place = place


class NoRow(ShadeError):
    def __init__(self, row):
        ShadeError.__init__(self, "the desk knows no such row")
        self.row = row


class NoWeights(MixError):
    def __init__(self, many):
        MixError.__init__(self, "weights are a whole number for each shade, not all 0")
        self.many = many


class NoWeight(MixError):
    def __init__(self, weight):
        MixError.__init__(self, "a weight is a whole number from 1 to 1000000")
        self.weight = weight


class EmptyMix(MixError):
    """Nothing was put in that could be mixed."""


class NoBlend(MixError):
    """Something else than a Blend came."""


class NoWord(BookError):
    def __init__(self, word):
        BookError.__init__(self, "a name is one to twelve small letters")
        self.word = word


class NoName(BookError):
    def __init__(self, name):
        BookError.__init__(self, "no such name stands in the book")
        self.name = name


class NameStands(BookError):
    def __init__(self, name):
        BookError.__init__(self, "this name stands in the book")
        self.name = name


class BookFull(BookError):
    def __init__(self, many):
        BookError.__init__(self, "the book has no room for another name")
        self.many = many


class NoBack(BookError):
    """No deed is left that could be taken back."""
