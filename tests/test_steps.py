"""Points 30 and 31: steps that draw floors together, and their backs."""

import random
import unittest
from fractions import Fraction

from currentfloor.errors import FloorError, NoFit, NoStep
from currentfloor.looks import looked
from currentfloor.steps import Above, Beside, Split, Step, step_of
from helper import (
    WHEEL,
    by_halves,
    drawn_together,
    floor_of,
    only_whole,
    pair,
    refused,
    some_floor,
    some_floors,
    step_fits,
    values_of,
)

HALF = Fraction(1, 2)
# Four squares that meet in a point: two below, two above.
FOUR = floor_of(2, 2, (0, 0, 1, 1), (1, 0, 2, 1), (0, 1, 1, 2), (1, 1, 2, 2))
# A column of three, the middle one first.
COLUMN = floor_of(1, 6, (0, 1, 1, 3), (0, 0, 1, 1), (0, 3, 1, 6))
ROW = floor_of(6, 1, (1, 0, 3, 1), (0, 0, 1, 1), (3, 0, 6, 1))


def row_of(*numbers):
    return tuple(pair(number) for number in numbers)


def split_made(floor, step):
    """What a split makes where it fits, None where it does not, by the words of point 30."""
    word, j, k, first, second = step
    if not (0 <= j < len(floor[2]) and j < k <= len(floor[2])):
        return None
    rows = list(floor[2])
    rows[j] = first
    rows.insert(k, second)
    made = (floor[0], floor[1], tuple(rows))
    if looked(made) != ("covers",):
        return None
    for back in ("above", "beside"):
        if step_fits(made, (back, j, k)) and drawn_together(made, j, k) == floor:
            return made
    return None


def parts(source, rectangle):
    """Two parts of a rectangle, well cut or not quite."""
    left, low, right, high = values_of(rectangle)
    x = left + Fraction(source.randint(1, 3), 4) * (right - left)
    y = low + Fraction(source.randint(1, 3), 4) * (high - low)
    ways = [((left, low, x, high), (x, low, right, high)), ((left, low, right, y), (left, y, right, high))] * 4
    ways += [((left, low, x, y), (x, y, right, high)), ((left, low, right, high), (x, y, x, y))]
    ways += [((left, low, x, high), (left, low, right, high)), ((right, low, x, high), (x, low, left, high))]
    ways += [((left, low, x, high), (x, low, right + 1, high)), ((left, low, right, low), (left, low, right, high))]
    first, second = source.choice(ways)
    if source.randrange(2):
        first, second = second, first
    return row_of(*first), row_of(*second)


class StepCase(unittest.TestCase):
    def assert_fits(self, floor, told, made):
        """The step makes this floor, its back leads back, and the back of that leads on again."""
        step = step_of(told)
        self.assertEqual(step.told(), told)
        self.assertEqual(step.done(floor), made)
        self.assertTrue(only_whole(step.done(floor)))
        self.assertEqual(looked(made), ("covers",))
        back = step.back(floor)
        self.assertIsInstance(back, Step)
        self.assertEqual(back.done(made), floor)
        self.assertEqual(step_of(back.told()).done(made), floor)
        self.assertEqual(back.told()[0] == "split", told[0] != "split")
        again = back.back(made)
        self.assertIsInstance(again, Step)
        self.assertEqual(again.done(floor), made)
        self.assertEqual(again.told()[0], told[0])

    def assert_no_fit(self, floor, *told):
        step = step_of(told)
        self.assertEqual(step.told(), told)
        self.assertEqual(refused(step.done, floor), ("NoFit",), told)
        self.assertEqual(refused(step.back, floor), ("NoFit",), told)


class TheClasses(StepCase):
    def test_right_under_step(self):
        for kind in (Above, Beside, Split):
            self.assertEqual(kind.__bases__, (Step,))

    def test_told(self):
        first, second = row_of(0, 0, 1, 1), row_of(1, 0, 2, 1)
        self.assertEqual(Above(3, 5).told(), ("above", 3, 5))
        self.assertEqual(Beside(0, 1).told(), ("beside", 0, 1))
        self.assertEqual(Split(0, 2, first, second).told(), ("split", 0, 2, first, second))

    def test_step_of(self):
        first, second = row_of(0, 0, 1, 1), row_of(1, 0, 2, 1)
        kinds = ((Above, ("above", 0, 1)), (Beside, ("beside", 4, -2)), (Split, ("split", 7, 1, first, second)))
        for kind, told in kinds:
            step = step_of(told)
            self.assertIs(type(step), kind)
            self.assertEqual(step.told(), told)

    def test_no_step(self):
        for word in ("", "Above", "above ", " above", "beneath", "splits", "ABOVE", "abov", "step", "told", "none"):
            self.assertEqual(refused(step_of, (word, 0, 1)), ("NoStep",))
            self.assertEqual(refused(step_of, (word, 0, 1, row_of(0, 0, 1, 1), row_of(1, 0, 2, 1))), ("NoStep",))

    def test_neither_refusal_is_of_the_others_class(self):
        with self.assertRaises(NoStep) as caught:
            step_of(("under", 0, 1))
        self.assertNotIsInstance(caught.exception, NoFit)
        with self.assertRaises(NoFit) as caught:
            Above(0, 1).done(ROW)
        self.assertNotIsInstance(caught.exception, NoStep)
        self.assertEqual((NoFit.__bases__, NoStep.__bases__), ((FloorError,), (FloorError,)))

    def test_steps_keep_to_themselves(self):
        one, other = Above(0, 1), Above(0, 2)
        self.assertEqual((one.told(), other.told()), (("above", 0, 1), ("above", 0, 2)))
        # One step may be asked of several floors.
        self.assertEqual(refused(one.done, ROW), ("NoFit",))
        self.assertEqual(len(one.done(COLUMN)[2]), 2)
        self.assertEqual(refused(one.done, ROW), ("NoFit",))


class AboveSteps(StepCase):
    def test_whichever_stands_above(self):
        self.assert_fits(COLUMN, ("above", 0, 1), floor_of(1, 6, (0, 0, 1, 3), (0, 3, 1, 6)))
        self.assert_fits(COLUMN, ("above", 0, 2), floor_of(1, 6, (0, 1, 1, 6), (0, 0, 1, 1)))

    def test_not_one_on_the_other(self):
        self.assert_no_fit(COLUMN, "above", 1, 2)

    def test_numbers_that_are_none(self):
        for j, k in ((0, 3), (-1, 0), (-3, -2), (3, 4), (0, 10 ** 9), (-2, 1), (1, 0), (2, 0), (0, 0), (2, 2), (3, 0)):
            self.assert_no_fit(COLUMN, "above", j, k)

    def test_pairs_that_only_touch(self):
        # Both are as wide, but not above each other; then one is wider; then only a corner is shared.
        self.assert_no_fit(ROW, "above", 0, 1)
        floor = floor_of(2, 2, (0, 0, 2, 1), (0, 1, 1, 2), (1, 1, 2, 2))
        self.assert_no_fit(floor, "above", 0, 1)
        self.assert_no_fit(floor, "above", 0, 2)
        self.assert_no_fit(FOUR, "above", 0, 3)
        self.assert_no_fit(FOUR, "above", 1, 2)
        for j in range(5):
            for k in range(j + 1, 5):
                self.assert_no_fit(WHEEL, "above", j, k)

    def test_a_third_at_the_end_of_the_side(self):
        for j, k in ((0, 2), (1, 3)):
            self.assert_no_fit(FOUR, "above", j, k)
        # At the right end of the side between both two more have their sides, at the left end none.
        pair_at_left = ((0, 0, 1, 1), (0, 1, 1, 3))
        self.assert_no_fit(floor_of(2, 3, *pair_at_left, (1, 0, 2, 1), (1, 1, 2, 3)), "above", 0, 1)
        self.assert_no_fit(floor_of(2, 3, *pair_at_left, (1, 1, 2, 2), (1, 2, 2, 3), (1, 0, 2, 1)), "above", 0, 1)

    def test_a_third_elsewhere_at_the_level(self):
        # A level side at the same height that does not come to the common side does not hinder.
        floor = floor_of(3, 2, (0, 0, 1, 1), (0, 1, 1, 2), (1, 0, 2, 2), (2, 0, 3, 1), (2, 1, 3, 2))
        self.assert_fits(floor, ("above", 0, 1), floor_of(3, 2, (0, 0, 1, 2), (1, 0, 2, 2), (2, 0, 3, 1), (2, 1, 3, 2)))
        self.assert_fits(floor, ("above", 3, 4), floor_of(3, 2, (0, 0, 1, 1), (0, 1, 1, 2), (1, 0, 2, 2), (2, 0, 3, 2)))

    def test_a_third_beside_without_a_level_side_there(self):
        floor = floor_of(2, 3, (0, 1, 1, 3), (1, 0, 2, 2), (0, 0, 1, 1), (1, 2, 2, 3))
        self.assert_fits(floor, ("above", 0, 2), floor_of(2, 3, (0, 0, 1, 3), (1, 0, 2, 2), (1, 2, 2, 3)))
        self.assert_fits(floor, ("above", 1, 3), floor_of(2, 3, (0, 1, 1, 3), (1, 0, 2, 3), (0, 0, 1, 1)))

    def test_order_of_the_others(self):
        floor = floor_of(4, 3, (0, 0, 1, 3), (3, 1, 4, 3), (1, 0, 2, 3), (3, 0, 4, 1), (2, 0, 3, 3))
        made = floor_of(4, 3, (0, 0, 1, 3), (3, 0, 4, 3), (1, 0, 2, 3), (2, 0, 3, 3))
        self.assert_fits(floor, ("above", 1, 3), made)


class BesideSteps(StepCase):
    def test_whichever_stands_left(self):
        self.assert_fits(ROW, ("beside", 0, 1), floor_of(6, 1, (0, 0, 3, 1), (3, 0, 6, 1)))
        self.assert_fits(ROW, ("beside", 0, 2), floor_of(6, 1, (1, 0, 6, 1), (0, 0, 1, 1)))

    def test_not_one_at_the_other(self):
        self.assert_no_fit(ROW, "beside", 1, 2)

    def test_numbers_that_are_none(self):
        for j, k in ((0, 3), (-1, 0), (-3, -2), (3, 4), (0, 10 ** 9), (-2, 1), (1, 0), (2, 0), (0, 0), (2, 2), (3, 0)):
            self.assert_no_fit(ROW, "beside", j, k)

    def test_pairs_that_only_touch(self):
        self.assert_no_fit(COLUMN, "beside", 0, 1)
        floor = floor_of(2, 2, (0, 0, 1, 2), (1, 0, 2, 1), (1, 1, 2, 2))
        self.assert_no_fit(floor, "beside", 0, 1)
        self.assert_no_fit(floor, "beside", 0, 2)
        self.assert_no_fit(FOUR, "beside", 0, 3)
        self.assert_no_fit(FOUR, "beside", 1, 2)
        # At the same low, but not at the same high; then the other way about.
        self.assert_no_fit(floor_of(2, 2, (0, 0, 1, 1), (0, 1, 1, 2), (1, 0, 2, 2)), "beside", 0, 2)
        self.assert_no_fit(floor_of(2, 2, (0, 0, 1, 1), (0, 1, 1, 2), (1, 0, 2, 2)), "beside", 1, 2)
        for j in range(5):
            for k in range(j + 1, 5):
                self.assert_no_fit(WHEEL, "beside", j, k)

    def test_where_four_meet(self):
        self.assert_fits(FOUR, ("beside", 0, 1), floor_of(2, 2, (0, 0, 2, 1), (0, 1, 1, 2), (1, 1, 2, 2)))
        self.assert_fits(FOUR, ("beside", 2, 3), floor_of(2, 2, (0, 0, 1, 1), (1, 0, 2, 1), (0, 1, 2, 2)))

    def test_order_of_the_others(self):
        floor = floor_of(4, 1, (3, 0, 4, 1), (1, 0, 2, 1), (2, 0, 3, 1), (0, 0, 1, 1))
        self.assert_fits(floor, ("beside", 1, 3), floor_of(4, 1, (3, 0, 4, 1), (0, 0, 2, 1), (2, 0, 3, 1)))


class SplitSteps(StepCase):
    def test_in_each_order(self):
        whole = floor_of(2, 1, (0, 0, 2, 1))
        left, right = (0, 0, HALF, 1), (HALF, 0, 2, 1)
        self.assert_fits(whole, ("split", 0, 1, row_of(*left), row_of(*right)), floor_of(2, 1, left, right))
        self.assert_fits(whole, ("split", 0, 1, row_of(*right), row_of(*left)), floor_of(2, 1, right, left))
        low, high = (0, 0, 2, HALF), (0, HALF, 2, 1)
        self.assert_fits(whole, ("split", 0, 1, row_of(*low), row_of(*high)), floor_of(2, 1, low, high))
        self.assert_fits(whole, ("split", 0, 1, row_of(*high), row_of(*low)), floor_of(2, 1, high, low))

    def test_backs_by_hand(self):
        whole = floor_of(2, 1, (0, 0, 2, 1))
        left, right = row_of(0, 0, 1, 1), row_of(1, 0, 2, 1)
        self.assertEqual(Split(0, 1, left, right).back(whole).told(), ("beside", 0, 1))
        low, high = row_of(0, 0, 2, HALF), row_of(0, HALF, 2, 1)
        self.assertEqual(Split(0, 1, low, high).back(whole).told(), ("above", 0, 1))
        self.assertEqual(Above(0, 2).back(COLUMN).told(), ("split", 0, 2, row_of(0, 1, 1, 3), row_of(0, 3, 1, 6)))
        self.assertEqual(Beside(0, 1).back(ROW).told(), ("split", 0, 1, row_of(1, 0, 3, 1), row_of(0, 0, 1, 1)))

    def test_where_the_second_part_comes(self):
        rows = [(0, 0, 1, 1), (1, 0, 3, 1), (3, 0, 4, 1)]
        floor = floor_of(4, 1, *rows)
        left, right = (1, 0, 2, 1), (2, 0, 3, 1)
        step = ("split", 1, 2, row_of(*left), row_of(*right))
        self.assert_fits(floor, step, floor_of(4, 1, rows[0], left, right, rows[2]))
        step = ("split", 1, 3, row_of(*left), row_of(*right))
        self.assert_fits(floor, step, floor_of(4, 1, rows[0], left, rows[2], right))
        for k in (-1, 0, 1, 4, 5, 10 ** 9):
            self.assert_no_fit(floor, "split", 1, k, row_of(*left), row_of(*right))

    def test_numbers_that_are_none(self):
        whole = floor_of(2, 1, (0, 0, 2, 1))
        left, right = row_of(0, 0, 1, 1), row_of(1, 0, 2, 1)
        for j, k in ((-1, 0), (-1, 1), (1, 2), (1, 1), (0, 0), (0, 2), (2, 1), (-2, -1), (5, 6)):
            self.assert_no_fit(whole, "split", j, k, left, right)

    def test_another_rectangle(self):
        # The parts are those of rectangle 0, not of 1.
        floor = floor_of(2, 1, (0, 0, 1, 1), (1, 0, 2, 1))
        left, right = row_of(0, 0, HALF, 1), row_of(HALF, 0, 1, 1)
        self.assert_no_fit(floor, "split", 1, 2, left, right)
        made = floor_of(2, 1, (0, 0, HALF, 1), (1, 0, 2, 1), (HALF, 0, 1, 1))
        self.assert_fits(floor, ("split", 0, 2, left, right), made)

    def test_parts_that_are_none(self):
        whole = floor_of(2, 2, (0, 0, 2, 2))
        everything = row_of(0, 0, 2, 2)
        nothing = [(0, 0, 0, 0), (1, 1, 1, 1), (2, 2, 2, 2), (2, 0, 2, 2), (0, 2, 2, 2), (0, 0, 2, 0), (2, 2, 0, 0)]
        for one in nothing:
            self.assert_no_fit(whole, "split", 0, 1, everything, row_of(*one))
            self.assert_no_fit(whole, "split", 0, 1, row_of(*one), everything)
            self.assert_no_fit(whole, "split", 0, 1, row_of(*one), row_of(*one))

    def test_parts_that_overlap_or_leave_a_gap(self):
        whole = floor_of(2, 2, (0, 0, 2, 2))
        wrong = [
            ((0, 0, 2, 2), (0, 0, 2, 2)),
            ((0, 0, 2, 1), (0, HALF, 2, 2)),
            ((0, 0, 1, 2), (HALF, 0, 2, 2)),
            ((0, 0, HALF, 2), (1, 0, 2, 2)),
            ((0, 0, 2, HALF), (0, 1, 2, 2)),
            ((0, 0, 1, 1), (1, 1, 2, 2)),
            ((0, 0, 1, 2), (1, 0, 2, 1)),
            ((0, 0, 1, 2), (1, 0, 3, 2)),
            ((-1, 0, 1, 2), (1, 0, 2, 2)),
            ((0, 0, 2, 1), (0, 1, 2, 3)),
        ]
        for first, second in wrong:
            self.assert_no_fit(whole, "split", 0, 1, row_of(*first), row_of(*second))
            self.assert_no_fit(whole, "split", 0, 1, row_of(*second), row_of(*first))

    def test_cut_where_a_third_has_its_side(self):
        # Level with the neighbour's side above does not fit, so the split does not either; a little higher it does.
        floor = floor_of(2, 2, (0, 0, 1, 2), (1, 0, 2, 1), (1, 1, 2, 2))
        self.assert_no_fit(floor, "split", 0, 1, row_of(0, 0, 1, 1), row_of(0, 1, 1, 2))
        more = 1 + HALF
        step = ("split", 0, 3, row_of(0, 0, 1, more), row_of(0, more, 1, 2))
        self.assert_fits(floor, step, floor_of(2, 2, (0, 0, 1, more), (1, 0, 2, 1), (1, 1, 2, 2), (0, more, 1, 2)))

    def test_cut_upright_where_four_meet_then(self):
        floor = floor_of(2, 2, (0, 0, 2, 1), (0, 1, 1, 2), (1, 1, 2, 2))
        made = floor_of(2, 2, (0, 0, 1, 1), (1, 0, 2, 1), (0, 1, 1, 2), (1, 1, 2, 2))
        self.assert_fits(floor, ("split", 0, 1, row_of(0, 0, 1, 1), row_of(1, 0, 2, 1)), made)

    def test_of_twenty_nine(self):
        width, height, rectangles = some_floor(random.Random(300), 29)
        floor = floor_of(width, height, *rectangles)
        left, low, right, high = rectangles[17]
        x = (left + right) / 2
        first, second = (left, low, x, high), (x, low, right, high)
        for k in (18, 29):
            rows = rectangles[:17] + [first] + rectangles[18:]
            made = floor_of(width, height, *rows[:k], second, *rows[k:])
            self.assert_fits(floor, ("split", 17, k, row_of(*first), row_of(*second)), made)


class ByChance(StepCase):
    def test_above_and_beside(self):
        fits = {"above": 0, "beside": 0}
        for floor in some_floors(random.Random(310), 9, 2):
            count = len(floor[2])
            for word in fits:
                for j in range(-1, count + 1):
                    for k in range(-1, count + 2):
                        if step_fits(floor, (word, j, k)):
                            self.assert_fits(floor, (word, j, k), drawn_together(floor, j, k))
                            fits[word] += 1
                        else:
                            self.assert_no_fit(floor, word, j, k)
        self.assertGreater(min(fits.values()), 80)

    def test_splits(self):
        source = random.Random(311)
        found = {True: 0, False: 0}
        for time in range(1500):
            width, height, rectangles = some_floor(source, source.randint(1, 8), 0, by_halves)
            floor = floor_of(width, height, *rectangles)
            j = source.randrange(len(rectangles))
            first, second = parts(source, floor[2][j])
            step = ("split", j, source.randint(j, len(rectangles) + 1), first, second)
            made = split_made(floor, step)
            found[made is not None] += 1
            if made is None:
                self.assert_no_fit(floor, *step)
            else:
                self.assert_fits(floor, step, made)
        self.assertGreater(min(found.values()), 300)

    def test_nothing_changes(self):
        before = repr(COLUMN)
        Above(0, 1).done(COLUMN)
        Above(0, 1).back(COLUMN).done(Above(0, 1).done(COLUMN))
        self.assertEqual(repr(COLUMN), before)


if __name__ == "__main__":
    unittest.main()
