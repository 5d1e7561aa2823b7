"""Points 3 and 32: floors drawn together until no step fits."""

import itertools
import random
import unittest
from collections import Counter

from currentfloor.floors import laid, without_points
from currentfloor.looks import looked
from currentfloor.settle import fitting, settled, walked
from helper import (
    BRIDGE,
    WHEEL,
    WHEEL_BACK,
    drawn_together,
    ease_one,
    end_by_chance,
    floor_of,
    only_whole,
    pair,
    refused,
    some_floor,
    some_floors,
    some_nets,
    step_fits,
    steps_that_fit,
)

ONE = floor_of(3, 2, (0, 0, 3, 2))
ROW = floor_of(4, 1, (1, 0, 2, 1), (0, 0, 1, 1), (2, 0, 4, 1))
FOUR = floor_of(2, 2, (0, 0, 1, 1), (1, 0, 2, 1), (0, 1, 1, 2), (1, 1, 2, 2))
# Three columns, the first two cut at 1, the last two at 2: cut in two again and again, but four meet, twice.
THREE_COLUMNS = floor_of(
    3, 3, (0, 0, 1, 1), (0, 1, 1, 3), (1, 0, 2, 1), (1, 1, 2, 2), (1, 2, 2, 3), (2, 0, 3, 2), (2, 2, 3, 3),
)


def four_meet(rectangles):
    """Whether four rectangles have a corner at one point."""
    corners = Counter(corner for one in rectangles for corner in itertools.product(one[0::2], one[1::2]))
    return max(corners.values()) == 4


def laid_floors(seed):
    source = random.Random(seed)
    nets = some_nets(source, 14) + some_nets(source, 14, ease_one)
    return [without_points(laid(net, (3, 2))) for net in nets]


class Fitting(unittest.TestCase):
    def test_none(self):
        for floor in (ONE, WHEEL, WHEEL_BACK, laid(BRIDGE, (1, 1))):
            self.assertEqual(fitting(floor), ())

    def test_one(self):
        self.assertEqual(fitting(floor_of(2, 1, (0, 0, 1, 1), (1, 0, 2, 1))), (("beside", 0, 1),))
        self.assertEqual(fitting(floor_of(1, 2, (0, 1, 1, 2), (0, 0, 1, 1))), (("above", 0, 1),))

    def test_several_sorted(self):
        self.assertEqual(fitting(ROW), (("beside", 0, 1), ("beside", 0, 2)))
        self.assertEqual(fitting(FOUR), (("beside", 0, 1), ("beside", 2, 3)))
        rows = [(0, 0, 1, 3), (1, 0, 2, 3), (2, 2, 4, 3), (2, 0, 4, 1), (2, 1, 4, 2)]
        told = (("above", 2, 4), ("above", 3, 4), ("beside", 0, 1))
        self.assertEqual(fitting(floor_of(4, 3, *rows)), told)

    def test_sorted_by_numbers(self):
        rows = [(x, 0, x + 1, 1) for x in range(12)]
        told = tuple(("beside", k, k + 1) for k in range(11))
        self.assertEqual(fitting(floor_of(12, 1, *rows)), told)

    def test_three_columns(self):
        self.assertEqual(fitting(THREE_COLUMNS), (("beside", 0, 2), ("beside", 4, 6)))

    def test_by_words(self):
        for floor in some_floors(random.Random(320), 14, 2) + laid_floors(321)[::3]:
            told = fitting(floor)
            self.assertEqual(told, steps_that_fit(floor))
            self.assertIs(type(told), tuple)
            self.assertTrue(all(type(step) is tuple for step in told))

    def test_thirty(self):
        source = random.Random(322)
        width, height, rectangles = some_floor(source, 30, 2)
        floor = floor_of(width, height, *rectangles)
        self.assertEqual(fitting(floor), steps_that_fit(floor))


class Settled(unittest.TestCase):
    def assert_settled(self, floor):
        steps, end = settled(floor)
        self.assertIs(type(settled(floor)), tuple)
        self.assertIs(type(steps), tuple)
        self.assertTrue(only_whole(end))
        here = floor
        for step in steps:
            self.assertIs(type(step), tuple)
            self.assertIn(step[0], ("above", "beside"))
            self.assertTrue(step_fits(here, step))
            here = drawn_together(here, *step[1:])
        self.assertEqual(end, here)
        self.assertEqual(walked(floor, steps), end)
        self.assertEqual(steps_that_fit(end), ())
        self.assertEqual(looked(end), ("covers",))
        self.assertEqual(len(steps) + len(end[2]), len(floor[2]))
        self.assertTrue(len(end[2]) == 1 or len(end[2]) >= 5)
        return end

    def test_one_rectangle(self):
        self.assertEqual(settled(ONE), ((), ONE))

    def test_two(self):
        floor = floor_of(2, 1, (0, 0, 1, 1), (1, 0, 2, 1))
        self.assertEqual(settled(floor), ((("beside", 0, 1),), floor_of(2, 1, (0, 0, 2, 1))))

    def test_four_that_meet(self):
        self.assertEqual(self.assert_settled(FOUR), floor_of(2, 2, (0, 0, 2, 2)))

    def test_wheels_stay(self):
        for floor in (WHEEL, WHEEL_BACK, laid(BRIDGE, (7, 2))):
            self.assertEqual(settled(floor), ((), floor))

    def test_wheels_with_cut_rectangles(self):
        rows = [(0, 0, 1, 1), (2, 0, 3, 2), (1, 0, 2, 1), (1, 2, 3, 3), (0, 1, 1, 3), (1, 1, 2, 2)]
        self.assertEqual(self.assert_settled(floor_of(3, 3, *rows)), WHEEL)

    def test_a_wheel_in_a_wheel(self):
        source = random.Random(323)
        counts = set()
        for wheels in range(1, 4):
            for time in range(10):
                width, height, rectangles = some_floor(source, 4 * wheels + 1, wheels)
                end = self.assert_settled(floor_of(width, height, *rectangles))
                counts.add(len(end[2]))
        self.assertTrue({5, 9, 13} <= counts)

    def test_cut_floors_come_to_one(self):
        source = random.Random(324)
        asked = 0
        for time in range(300):
            width, height, rectangles = some_floor(source, source.randint(1, 30))
            if not four_meet(rectangles):
                asked += 1
                floor = floor_of(width, height, *rectangles)
                self.assertEqual(settled(floor)[1], floor_of(width, height, (0, 0, width, height)))
        self.assertGreater(asked, 100)

    def test_cut_floor_in_which_four_meet(self):
        # What is drawn together at the two points is a wheel in the end.
        end = self.assert_settled(THREE_COLUMNS)
        wheel = floor_of(3, 3, (0, 0, 2, 1), (0, 1, 1, 3), (1, 1, 2, 2), (1, 2, 3, 3), (2, 0, 3, 2))
        self.assertEqual(end, wheel)

    def test_whichever_steps_are_taken(self):
        source = random.Random(326)
        ends = Counter()
        for floor in some_floors(source, 14, 2) + laid_floors(327):
            end = self.assert_settled(floor)
            ends[len(end[2]) == 1] += 1
            for time in range(3):
                self.assertEqual(end_by_chance(source, floor), end)
        self.assertGreater(min(ends.values()), 20)

    def test_thirty(self):
        source = random.Random(328)
        width, height, rectangles = some_floor(source, 30, 3)
        floor = floor_of(width, height, *rectangles)
        self.assertEqual(self.assert_settled(floor), end_by_chance(source, floor))


class Walked(unittest.TestCase):
    def test_no_steps(self):
        for floor in (ONE, ROW, WHEEL):
            self.assertEqual(walked(floor, ()), floor)

    def test_steps_that_fit(self):
        steps = (("beside", 0, 2), ("beside", 0, 1))
        self.assertEqual(walked(ROW, steps[:1]), floor_of(4, 1, (1, 0, 4, 1), (0, 0, 1, 1)))
        self.assertEqual(walked(ROW, steps), floor_of(4, 1, (0, 0, 4, 1)))

    def test_splits_among_them(self):
        left, right = tuple(map(pair, (0, 0, 1, 2))), tuple(map(pair, (1, 0, 3, 2)))
        low, high = tuple(map(pair, (1, 0, 3, 1))), tuple(map(pair, (1, 1, 3, 2)))
        steps = (("split", 0, 1, left, right), ("split", 1, 2, high, low), ("above", 1, 2), ("beside", 0, 1))
        self.assertEqual(walked(ONE, steps[:2]), floor_of(3, 2, (0, 0, 1, 2), (1, 1, 3, 2), (1, 0, 3, 1)))
        self.assertEqual(walked(ONE, steps), ONE)

    def test_refused(self):
        good = ("beside", 0, 1)
        for bad, name in ((("above", 0, 1), "NoFit"), (("beside", 0, 7), "NoFit"), (("under", 0, 1), "NoStep")):
            self.assertEqual(refused(walked, ROW, (bad,)), (name,))
            self.assertEqual(refused(walked, ROW, (bad, good, good)), (name,))
            self.assertEqual(refused(walked, ROW, (good, bad, good)), (name,))
            self.assertEqual(refused(walked, ROW, (good, good, bad)), (name,))

    def test_the_first_refused(self):
        good, no_fit, no_step = ("beside", 0, 1), ("above", 0, 1), ("", 0, 1)
        self.assertEqual(refused(walked, ROW, (no_fit, no_step)), ("NoFit",))
        self.assertEqual(refused(walked, ROW, (no_step, no_fit)), ("NoStep",))
        self.assertEqual(refused(walked, ROW, (good, no_fit, no_step)), ("NoFit",))
        self.assertEqual(refused(walked, ROW, (good, no_step, no_fit)), ("NoStep",))

    def test_a_step_that_fits_no_more(self):
        # It fits the first floor, but not what the steps ahead of it make.
        self.assertEqual(refused(walked, ROW, (("beside", 0, 2), ("beside", 0, 2))), ("NoFit",))

    def test_back_again(self):
        source = random.Random(329)
        for floor in some_floors(source, 12):
            backs = []
            here = floor
            for step in settled(floor)[0]:
                word, j, k = step
                backs.insert(0, ("split", j, k, here[2][j], here[2][k]))
                here = walked(here, (step,))
            self.assertEqual(walked(here, tuple(backs)), floor)

    def test_nothing_changes(self):
        before = repr(THREE_COLUMNS)
        settled(THREE_COLUMNS)
        fitting(THREE_COLUMNS)
        self.assertEqual(repr(THREE_COLUMNS), before)


if __name__ == "__main__":
    unittest.main()
