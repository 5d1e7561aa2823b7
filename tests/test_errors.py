"""Point 2 and the interface: the sixteen refusals."""

import unittest

from currentfloor import errors
from currentfloor.back import net_of
from currentfloor.books import all_codes, fewest
from currentfloor.codes import code_of, floor_by
from currentfloor.desk import Desk
from currentfloor.fractions import fraction, over
from currentfloor.nets import checked, eased, taken_out
from currentfloor.settle import walked
from currentfloor.steps import Above, Beside, Split, step_of
from currentfloor.tables import answer
from currentfloor.texts import net_read
from currentfloor.trees import halves, trees
from helper import BRIDGE, ONE_ROPE, WHEEL, beside_each_other, floor_of

FIELDS = {
    "NoNet": ("word",),
    "NoRope": ("rope", "word"),
    "NoTurn": ("place",),
    "Loose": ("place",),
    "NotFlat": ("lands",),
    "NoText": ("part",),
    "NoFloor": ("found",),
    "NoCode": ("place",),
    "NoSize": ("at",),
    "NoName": ("name",),
}
TEXTS = ("NoNumber", "NoAnswer", "TooMany", "NoFit", "NoStep", "NoLine")
VALUES = {
    "word": "ease",
    "rope": 3,
    "place": 7,
    "lands": 4,
    "part": 2,
    "found": ("gap", (0, 1), (0, 1), (1, 2), (3, 1)),
    "at": 5,
    "name": "net",
}

NARROW = floor_of(1, 2, (0, 0, 1, 2))
MANY = beside_each_other([(1, 1)] * 10)
# Calls that are refused: the refusal's name, its fields, the function, what is handed in.
CALLS = (
    ("NoNet", ("places",), checked, (1, ONE_ROPE[1], ONE_ROPE[2])),
    ("NoNet", ("ropes",), checked, (2, (), ((), ()))),
    ("NoRope", (0, "place"), checked, (2, ((0, 2, (1, 1)),), ONE_ROPE[2])),
    ("NoRope", (0, "ease"), checked, (2, ((0, 1, (0, 1)),), ONE_ROPE[2])),
    ("NoRope", (1, "number"), eased, (ONE_ROPE, 1, (1, 1))),
    ("NoRope", (-1, "number"), taken_out, (ONE_ROPE, -1)),
    ("NoTurn", (1,), checked, (2, ONE_ROPE[1], ((0, 2), (1,)))),
    ("Loose", (1,), taken_out, (ONE_ROPE, 0)),
    ("Loose", (2,), checked, (3, ((0, 1, (1, 1)), (2, 2, (1, 1))), ((0, 4), (1, 5), (2, 3)))),
    ("NotFlat", (2,), checked, (2, ((0, 1, (1, 1)),) * 3, ((0, 2, 4, 6), (1, 3, 5, 7)))),
    ("NoText", (3,), net_read, ("",)),
    ("NoText", (0,), net_read, ("x; 0 1 2; 0 2 | 1 3",)),
    ("NoFloor", (("gap", (0, 1), (0, 1), (1, 1), (1, 1)),), net_of, (floor_of(1, 1),)),
    ("NoFloor", (("overlap", 0, 1),), code_of, (floor_of(1, 2, (0, 0, 1, 2), (0, 0, 1, 2)),)),
    ("NoCode", (0,), code_of, (NARROW,)),
    ("NoSize", (1,), floor_by, (2, 1, (1,))),
    ("NoName", ("a",), Desk().tell, ("show a",)),
    ("NoName", ("A",), Desk().tell, ("net A ",)),
    ("NoNumber", (), fraction, (1, 0)),
    ("NoNumber", (), over, ((1, 1), (0, 1))),
    ("NoAnswer", (), answer, ((((0, 1),),), ((1, 1),))),
    ("TooMany", (), trees, (MANY,)),
    ("TooMany", (), halves, (MANY,)),
    ("TooMany", (), net_of, (floor_of(15, 1, *[(x, 0, x + 1, 1) for x in range(15)]),)),
    ("TooMany", (), all_codes, (1, 6, 1)),
    ("TooMany", (), fewest, (0, 1)),
    ("NoFit", (), Above(0, 1).done, (WHEEL,)),
    ("NoFit", (), Beside(0, 1).back, (WHEEL,)),
    ("NoFit", (), Split(0, 1, NARROW[2][0], NARROW[2][0]).done, (NARROW,)),
    ("NoFit", (), walked, (NARROW, (("above", 0, 1),))),
    ("NoStep", (), step_of, (("under", 0, 1),)),
    ("NoStep", (), walked, (NARROW, (("under", 0, 1),))),
    ("NoLine", (), Desk().tell, ("",)),
)


def refusals():
    return [getattr(errors, name) for name in list(FIELDS) + list(TEXTS)]


class TheirPlaces(unittest.TestCase):
    def test_there_are_sixteen(self):
        self.assertEqual(len(set(refusals())), 16)

    def test_the_base_stands_under_value_error(self):
        self.assertEqual(errors.FloorError.__bases__, (ValueError,))

    def test_each_stands_right_under_the_base(self):
        for refusal in refusals():
            with self.subTest(refusal.__name__):
                self.assertEqual(refusal.__bases__, (errors.FloorError,))

    def test_none_stands_under_another(self):
        for one in refusals():
            for other in refusals():
                if one is not other:
                    self.assertFalse(issubclass(one, other), (one, other))

    def test_each_bears_its_own_name(self):
        for name in list(FIELDS) + list(TEXTS):
            self.assertEqual(getattr(errors, name).__name__, name)

    def test_no_other_class_stands_there(self):
        classes = [name for name, value in vars(errors).items() if isinstance(value, type)]
        self.assertEqual(sorted(classes), sorted(["FloorError", *FIELDS, *TEXTS]))


class TheirFields(unittest.TestCase):
    def test_fields_in_their_order(self):
        for name, fields in FIELDS.items():
            with self.subTest(name):
                made = getattr(errors, name)(*[VALUES[field] for field in fields])
                self.assertEqual(vars(made), {field: VALUES[field] for field in fields})

    def test_fields_are_handed_in_whole(self):
        for name, fields in FIELDS.items():
            with self.subTest(name):
                refusal = getattr(errors, name)
                with self.assertRaises(TypeError):
                    refusal()
                with self.assertRaises(TypeError):
                    refusal(*[0] * (len(fields) + 1))

    def test_made_of_one_text(self):
        for name in TEXTS:
            with self.subTest(name):
                self.assertEqual(str(getattr(errors, name)("some words")), "some words")

    def test_objects_keep_their_own_values(self):
        first = errors.NoRope(0, "place")
        second = errors.NoRope(1, "ease")
        self.assertEqual((first.rope, first.word), (0, "place"))
        self.assertEqual((second.rope, second.word), (1, "ease"))

    def test_raised_it_is_taken_as_any_refusal(self):
        for name, fields in list(FIELDS.items()) + [(name, ("word",)) for name in TEXTS]:
            for taken in (errors.FloorError, ValueError):
                with self.subTest(name, taken=taken):
                    with self.assertRaises(taken) as caught:
                        raise getattr(errors, name)(*[VALUES[field] for field in fields])
                    self.assertIs(type(caught.exception), getattr(errors, name))


class MetInCalls(unittest.TestCase):
    def met(self, function, handed):
        try:
            function(*handed)
        except errors.FloorError as error:
            return error
        return None

    def test_each_is_met(self):
        self.assertEqual({name for name, fields, function, handed in CALLS}, {*FIELDS, *TEXTS})

    def test_by_its_own_class_with_its_fields(self):
        for name, fields, function, handed in CALLS:
            with self.subTest(name, function=function, handed=handed):
                error = self.met(function, handed)
                self.assertIs(type(error), getattr(errors, name))
                self.assertEqual(vars(error), dict(zip(FIELDS.get(name, ()), fields)))

    def test_by_none_of_the_others(self):
        for name, fields, function, handed in CALLS:
            error = self.met(function, handed)
            others = [other for other in refusals() if other.__name__ != name]
            self.assertEqual(len(others), 15)
            self.assertNotIsInstance(error, tuple(others))
            self.assertIsInstance(error, ValueError)

    def test_nothing_is_refused_without_need(self):
        self.assertIsNone(self.met(checked, BRIDGE))
        self.assertIsNone(self.met(net_of, (WHEEL,)))


if __name__ == "__main__":
    unittest.main()
