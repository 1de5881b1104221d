import unittest

from lightshares import errors

FIELDS = {
    errors.ShadeError: {
        "NoNumber": "place", "NoShade": "light", "NoPart": "part", "NoDeed": "place", "NoTurn": "part",
        "NoWay": "way", "NoText": "row", "NoGrade": "grade", "NoStep": "light", "NoEye": "eye",
        "NoLimit": "limit", "NoPlace": "place", "NoLights": "place", "NoRow": "row",
    },
    errors.MixError: {"NoWeights": "many", "NoWeight": "weight", "EmptyMix": None, "NoBlend": None},
    errors.BookError: {
        "NoWord": "word", "NoName": "name", "NameStands": "name", "BookFull": "many", "NoBack": None,
    },
}


def made(name, field, value):
    refusal = getattr(errors, name)
    return refusal() if field is None else refusal(value)


class Bases(unittest.TestCase):
    def test_bases_stand_under_pythons_own(self):
        self.assertEqual(errors.ShadeError.__bases__, (ValueError,))
        self.assertEqual(errors.MixError.__bases__, (ArithmeticError,))
        self.assertEqual(errors.BookError.__bases__, (LookupError,))

    def test_each_refusal_stands_under_its_base_alone(self):
        for base, refusals in FIELDS.items():
            for name in refusals:
                with self.subTest(name):
                    self.assertEqual(getattr(errors, name).__bases__, (base,))

    def test_no_refusal_stands_under_another_base_or_refusal(self):
        refusals = [getattr(errors, name) for row in FIELDS.values() for name in row]
        for one in refusals:
            self.assertEqual([issubclass(one, base) for base in FIELDS].count(True), 1)
            self.assertEqual([other for other in refusals if issubclass(one, other)], [one])

    def test_nothing_else_stands_there(self):
        named = {name for row in FIELDS.values() for name in row}
        there = {name for name, thing in vars(errors).items() if isinstance(thing, type)}
        self.assertEqual(there, named | {"ShadeError", "MixError", "BookError"})


class Fields(unittest.TestCase):
    def test_each_has_its_field_as_it_was_handed_in(self):
        deep = [[[("x", None)]]]
        for row in FIELDS.values():
            for name, field in row.items():
                if field is None:
                    continue
                for value in (0, 2, None, "word", deep, 10 ** 6000):
                    with self.subTest(name):
                        self.assertIs(getattr(made(name, field, value), field), value)

    def test_each_object_has_its_own_field(self):
        one, other = errors.NoNumber(0), errors.NoNumber(1)
        self.assertEqual((one.place, other.place), (0, 1))

    def test_each_has_words(self):
        for row in FIELDS.values():
            for name, field in row.items():
                # Words that held a number of so many figures couldn't be made.
                self.assertIsInstance(str(made(name, field, 10 ** 6000)), str)

    def test_a_refusal_without_a_field_is_made_with_words(self):
        for name in ("EmptyMix", "NoBlend", "NoBack"):
            self.assertEqual(str(getattr(errors, name)("words")), "words")


if __name__ == "__main__":
    unittest.main()
