"""Point 2 and the interface: the sixteen refusals."""

import unittest

from currentfloor import errors

FIELDS = {
    "NoNet": ("word",),
    "NoRope": ("rope", "word"),
    "NoTurn": ("place",),
    "Loose": ("place",),
    "NotFlat": ("lands",),
    "NoText": ("part",),
    "NoFloor": ("found",),
    "NoCode": ("place",),
    "NoSize": ("at",),
    "NoName": ("name",),
}
TEXTS = ("NoNumber", "NoAnswer", "TooMany", "NoFit", "NoStep", "NoLine")
VALUES = {
    "word": "ease",
    "rope": 3,
    "place": 7,
    "lands": 4,
    "part": 2,
    "found": ("gap", (0, 1), (0, 1), (1, 2), (3, 1)),
    "at": 5,
    "name": "net",
}


def refusals():
    return [getattr(errors, name) for name in list(FIELDS) + list(TEXTS)]


class TheirPlaces(unittest.TestCase):
    def test_there_are_sixteen(self):
        self.assertEqual(len(set(refusals())), 16)

    def test_the_base_stands_under_value_error(self):
        self.assertEqual(errors.FloorError.__bases__, (ValueError,))

    def test_each_stands_right_under_the_base(self):
        for refusal in refusals():
            with self.subTest(refusal.__name__):
                self.assertEqual(refusal.__bases__, (errors.FloorError,))

    def test_none_stands_under_another(self):
        for one in refusals():
            for other in refusals():
                if one is not other:
                    self.assertFalse(issubclass(one, other), (one, other))

    def test_each_bears_its_own_name(self):
        for name in list(FIELDS) + list(TEXTS):
            self.assertEqual(getattr(errors, name).__name__, name)

    def test_no_other_class_stands_there(self):
        classes = [name for name, value in vars(errors).items() if isinstance(value, type)]
        self.assertEqual(sorted(classes), sorted(["FloorError", *FIELDS, *TEXTS]))


class TheirFields(unittest.TestCase):
    def test_fields_in_their_order(self):
        for name, fields in FIELDS.items():
            with self.subTest(name):
                made = getattr(errors, name)(*[VALUES[field] for field in fields])
                self.assertEqual(vars(made), {field: VALUES[field] for field in fields})

    def test_fields_are_handed_in_whole(self):
        for name, fields in FIELDS.items():
            with self.subTest(name):
                refusal = getattr(errors, name)
                with self.assertRaises(TypeError):
                    refusal()
                with self.assertRaises(TypeError):
                    refusal(*[0] * (len(fields) + 1))

    def test_made_of_one_text(self):
        for name in TEXTS:
            with self.subTest(name):
                self.assertEqual(str(getattr(errors, name)("some words")), "some words")

    def test_objects_keep_their_own_values(self):
        first = errors.NoRope(0, "place")
        second = errors.NoRope(1, "ease")
        self.assertEqual((first.rope, first.word), (0, "place"))
        self.assertEqual((second.rope, second.word), (1, "ease"))

    def test_raised_it_is_taken_as_any_refusal(self):
        for name, fields in list(FIELDS.items()) + [(name, ("word",)) for name in TEXTS]:
            for taken in (errors.FloorError, ValueError):
                with self.subTest(name, taken=taken):
                    with self.assertRaises(taken) as caught:
                        raise getattr(errors, name)(*[VALUES[field] for field in fields])
                    self.assertIs(type(caught.exception), getattr(errors, name))


if __name__ == "__main__":
    unittest.main()
