"""Points 3, 25, 26 and 27: floors read back to nets."""

import itertools
import random
import unittest
from fractions import Fraction

from currentfloor.back import net_of
from currentfloor.errors import FloorError, NoFloor, TooMany
from currentfloor.floors import laid, turned, without_points
from currentfloor.looks import looked
from currentfloor.nets import checked
from helper import (
    BRIDGE,
    ONE_ROPE,
    WHEEL,
    WHEEL_BACK,
    begun_with_least,
    by_halves,
    ease_one,
    floor_of,
    long_ease,
    only_whole,
    pair,
    refused,
    some_floor,
    some_floors,
    some_nets,
    values_of,
)


def grid(columns, rows):
    """So many columns and rows of squares, row by row from below."""
    squares = [(x, y, x + 1, y + 1) for y in range(rows) for x in range(columns)]
    return floor_of(columns, rows, *squares)


def in_one_line(one, other):
    """Whether two level sides (height, left, right) have a point in common."""
    return one[0] == other[0] and max(one[1], other[1]) <= min(one[2], other[2])


def lines_by_words(sides):
    """Sets of level sides: two are in one set where they have a point in common, or each is with a third."""
    lines = [{side} for side in sides]
    joined = True
    while joined:
        joined = False
        for one, other in itertools.combinations(lines, 2):
            if any(in_one_line(first, second) for first in one for second in other):
                lines.remove(one)
                lines.remove(other)
                lines.append(one | other)
                joined = True
                break
    return lines


def placed_by_words(width, height, rectangles):
    """The lines in the order of their places."""
    upper, lower = (height, 0, width), (0, 0, width)
    sides = [upper, lower]
    for left, low, right, high in rectangles:
        sides += [(low, left, right), (high, left, right)]
    lines = lines_by_words(sides)
    first = [line for line in lines if upper in line]
    second = [line for line in lines if lower in line]
    others = [line for line in lines if upper not in line and lower not in line]
    others.sort(key=lambda line: (-max(side[0] for side in line), min(side[1] for side in line)))
    return first + second + others


def expected(floor):
    """The net that points 25 and 26 ask, word by word."""
    width, height = values_of(floor[:2])
    everything = [tuple(values_of(rectangle)) for rectangle in floor[2]]
    rectangles = [one for one in everything if one[:2] != one[2:]]
    lines = placed_by_words(width, height, rectangles)
    ropes = []
    above = [[] for line in lines]
    below = [[] for line in lines]
    for k, (left, low, right, high) in enumerate(rectangles):
        [one] = [place for place, line in enumerate(lines) if (high, left, right) in line]
        [other] = [place for place, line in enumerate(lines) if (low, left, right) in line]
        ropes.append((one, other, pair((right - left) / (high - low))))
        below[one].append((left, 2 * k))
        above[other].append((left, 2 * k + 1))
    turns = []
    for place in range(len(lines)):
        upper = [end for left, end in sorted(above[place], reverse=True)]
        under = [end for left, end in sorted(below[place])]
        if place == 0:
            upper = [2 * len(ropes)]
        if place == 1:
            under = [2 * len(ropes) + 1]
        turns.append(upper + under)
    return (len(lines), tuple(ropes), begun_with_least(turns))


def with_points(source, floor):
    """The floor with some points among its rectangles."""
    rows = list(floor[2])
    for time in range(source.randint(1, 4)):
        x, y = source.choice(source.choice(floor[2])[0::2]), source.choice(source.choice(floor[2])[1::2])
        rows.insert(source.randint(0, len(rows)), (x, y, x, y))
    return (floor[0], floor[1], tuple(rows))


class BackCase(unittest.TestCase):
    def assert_read_back(self, floor):
        net = net_of(floor)
        self.assertEqual(net, expected(floor), floor)
        self.assertTrue(only_whole(net))
        self.assertEqual(checked(*net), net)
        self.assertEqual(laid(net, floor[1]), without_points(floor))
        return net


class ByHand(BackCase):
    def test_one_rectangle(self):
        self.assertEqual(net_of(floor_of(2, 1, (0, 0, 2, 1))), ONE_ROPE)
        third = Fraction(1, 3)
        self.assertEqual(net_of(floor_of(third, 2, (0, 0, third, 2))), (2, ((0, 1, (1, 6)),), ((0, 2), (1, 3))))

    def test_two_beside_each_other(self):
        left, right = (0, 0, 2, 1), (2, 0, 5, 1)
        net = (2, ((0, 1, (2, 1)), (0, 1, (3, 1))), ((0, 2, 4), (1, 5, 3)))
        self.assertEqual(net_of(floor_of(5, 1, left, right)), net)
        net = (2, ((0, 1, (3, 1)), (0, 1, (2, 1))), ((0, 4, 2), (1, 3, 5)))
        self.assertEqual(net_of(floor_of(5, 1, right, left)), net)

    def test_two_above_each_other(self):
        high, low = (0, 2, 1, 3), (0, 0, 1, 2)
        net = (3, ((0, 2, (1, 1)), (2, 1, (1, 2))), ((0, 4), (3, 5), (1, 2)))
        self.assertEqual(net_of(floor_of(1, 3, high, low)), net)
        net = (3, ((2, 1, (1, 2)), (0, 2, (1, 1))), ((2, 4), (1, 5), (0, 3)))
        self.assertEqual(net_of(floor_of(1, 3, low, high)), net)

    def test_several_ropes_above_and_below(self):
        floor = floor_of(6, 2, (0, 1, 2, 2), (2, 1, 3, 2), (3, 1, 6, 2), (0, 0, 5, 1), (5, 0, 6, 1))
        self.assertEqual(net_of(floor), (
            3,
            ((0, 2, (2, 1)), (0, 2, (1, 1)), (0, 2, (3, 1)), (2, 1, (5, 1)), (2, 1, (1, 1))),
            # Above the middle from right to left 5, 3, 1, below it from left to right 6, 8.
            ((0, 2, 4, 10), (7, 11, 9), (1, 6, 8, 5, 3)),
        ))

    def test_four_meet_in_a_point(self):
        floor = grid(2, 2)
        self.assertEqual(net_of(floor), (
            3,
            ((2, 1, (1, 1)), (2, 1, (1, 1)), (0, 2, (1, 1)), (0, 2, (1, 1))),
            ((4, 6, 8), (1, 9, 3), (0, 2, 7, 5)),
        ))

    def test_ends_that_touch_join_lines(self):
        # The sides at 1 of both columns share their ends alone; that at 2 stays by itself.
        floor = floor_of(2, 3, (0, 0, 1, 1), (0, 1, 1, 3), (1, 0, 2, 1), (1, 1, 2, 2), (1, 2, 2, 3))
        self.assertEqual(net_of(floor)[0], 4)
        self.assert_read_back(floor)

    def test_lines_at_the_same_height_apart(self):
        left_below, left_above = (0, 0, 1, 1), (0, 1, 1, 2)
        right_below, right_above = (2, 0, 3, 1), (2, 1, 3, 2)
        middle = (1, 0, 2, 2)
        floor = floor_of(3, 2, right_below, middle, left_above, right_above, left_below)
        one, half = (1, 1), (1, 2)
        self.assertEqual(net_of(floor), (
            4,
            ((3, 1, one), (0, 1, half), (0, 2, one), (0, 3, one), (2, 1, one)),
            ((2, 6, 10, 4), (1, 3, 9, 11), (5, 8), (0, 7)),
        ))

    def test_places_by_heights(self):
        # Three columns cut at 1, 3 and 2, so their lines fall in the order of the second, the third, the first.
        floor = floor_of(3, 4, (0, 0, 1, 1), (0, 1, 1, 4), (1, 0, 2, 3), (1, 3, 2, 4), (2, 0, 3, 2), (2, 2, 3, 4))
        places = [rope[:2] for rope in net_of(floor)[1]]
        self.assertEqual(places, [(4, 1), (0, 4), (2, 1), (0, 2), (3, 1), (0, 3)])

    def test_wheels(self):
        one, double, half = (1, 1), (2, 1), (1, 2)
        self.assertEqual(net_of(WHEEL), (
            4,
            ((3, 1, double), (2, 1, half), (0, 2, double), (0, 3, half), (2, 3, one)),
            ((4, 10, 6), (1, 11, 3), (2, 5, 8), (0, 9, 7)),
        ))
        self.assertEqual(net_of(WHEEL_BACK), (
            4,
            ((3, 1, double), (0, 3, half), (0, 2, double), (2, 1, half), (2, 3, one)),
            ((2, 10, 4), (1, 7, 11), (5, 6, 8), (0, 3, 9)),
        ))

    def test_bridge(self):
        self.assertEqual(net_of(laid(BRIDGE, (131, 1))), checked(*BRIDGE))

    def test_nothing_is_told_of_points(self):
        point = (1, 1, 1, 1)
        floor = floor_of(2, 1, point, (0, 0, 2, 1), (0, 0, 0, 0), point)
        self.assertEqual(net_of(floor), ONE_ROPE)

    def test_points_make_and_join_no_lines(self):
        half = Fraction(1, 2)
        floor = floor_of(3, 1, (half, half, half, half), (0, 0, 3, 1))
        self.assertEqual(net_of(floor), (2, ((0, 1, (3, 1)),), ((0, 2), (1, 3))))
        columns = ((0, 0, 1, 1), (0, 1, 1, 2), (1, 0, 2, 2), (2, 0, 3, 1), (2, 1, 3, 2))
        points = [(x, 1, x, 1) for x in (1, 1 + half, 2)]
        self.assertEqual(net_of(floor_of(3, 2, *columns, *points)), net_of(floor_of(3, 2, *columns)))


class ByChance(BackCase):
    def test_floors_cut_and_wheeled(self):
        for floor in some_floors(random.Random(260), 14, 4):
            self.assert_read_back(floor)

    def test_floors_with_points(self):
        source = random.Random(261)
        for floor in some_floors(source, 14):
            dotted = with_points(source, floor)
            self.assertEqual(net_of(dotted), net_of(floor))
            self.assert_read_back(dotted)

    def test_floors_turned(self):
        for floor in some_floors(random.Random(262), 14):
            self.assert_read_back(turned(floor))

    def test_grids(self):
        for columns, rows in itertools.product(range(1, 15), repeat=2):
            if columns * rows <= 14:
                net = self.assert_read_back(grid(columns, rows))
                self.assertEqual(net[0], rows + 1)

    def test_floors_where_four_meet(self):
        source = random.Random(263)
        for time in range(200):
            width, height, rectangles = some_floor(source, source.randint(4, 14), 0, by_halves)
            self.assert_read_back(floor_of(width, height, *rectangles))

    def test_long_numbers(self):
        figures = set()
        for floor in some_floors(random.Random(264), 14):
            figures |= {number[1] for rectangle in floor[2] for number in rectangle}
        self.assertGreater(max(figures), 10 ** 8)
        self.assertLess(max(figures), 10 ** 9)
        far = 10 ** 9 - 1
        floor = floor_of(far, far, (0, 0, far, 1), (0, 1, Fraction(1, far), far), (Fraction(1, far), 1, far, far))
        self.assert_read_back(floor)

    def test_laid_nets(self):
        """What a net lays, read back and laid again, is the same; the eases are the net's own."""
        source = random.Random(265)
        nets = some_nets(source, 14) + some_nets(source, 14, ease_one) + some_nets(source, 10, long_ease)
        for net in nets:
            floor = laid(net, (source.randint(1, 99), 7))
            self.assert_read_back(floor)
            solid = [rope for rope, one in zip(net[1], floor[2]) if one[:2] != one[2:]]
            self.assertEqual([rope[2] for rope in net_of(floor)[1]], [rope[2] for rope in solid])

    def test_nothing_changes(self):
        floor = laid(BRIDGE, (1, 1))
        net_of(floor)
        self.assertEqual(floor, laid(BRIDGE, (1, 1)))


class Refused(BackCase):
    def assert_no_floor(self, floor, word):
        found = looked(floor)
        self.assertEqual(found[0], word)
        self.assertEqual(refused(net_of, floor), ("NoFloor", found))

    def test_each_find(self):
        self.assert_no_floor(floor_of(2, 1, (0, 0, 2, 1), (1, 0, 1, 1)), "no")
        self.assert_no_floor(floor_of(2, 1, (0, 0, 3, 1)), "out")
        self.assert_no_floor(floor_of(2, 1, (0, 0, 2, 1), (-1, 0, -1, 0)), "out")
        self.assert_no_floor(floor_of(2, 1, (0, 0, 2, 1), (0, 0, 2, 1)), "overlap")
        self.assert_no_floor(floor_of(2, 1, (0, 0, 1, 1)), "gap")
        self.assert_no_floor(floor_of(2, 1), "gap")
        self.assert_no_floor(floor_of(2, 1, (1, 1, 1, 1)), "gap")

    def test_the_fields(self):
        self.assertEqual(refused(net_of, floor_of(2, 1, (0, 0, 2, 1), (1, 0, 1, 1))), ("NoFloor", ("no", 1)))
        self.assertEqual(refused(net_of, floor_of(2, 1, (0, 0, 1, 1), (-1, 0, 2, 1))), ("NoFloor", ("out", 1)))
        self.assertEqual(refused(net_of, floor_of(2, 1, (0, 0, 2, 1), (1, 0, 2, 1))), ("NoFloor", ("overlap", 0, 1)))
        gap = ("gap", (1, 1), (0, 1), (2, 1), (1, 1))
        self.assertEqual(refused(net_of, floor_of(2, 1, (0, 0, 1, 1))), ("NoFloor", gap))

    def test_any_fractions(self):
        source = random.Random(266)
        for time in range(300):
            numbers = [Fraction(source.randint(-3, 9), source.randint(1, 3)) for side in range(8)]
            floor = floor_of(4, 4, numbers[:4], numbers[4:])
            if looked(floor) != ("covers",):
                self.assertEqual(refused(net_of, floor), ("NoFloor", looked(floor)))

    def test_fifteen(self):
        source = random.Random(267)
        for count in (15, 16, 30):
            width, height, rectangles = some_floor(source, count)
            floor = floor_of(width, height, *rectangles)
            self.assertEqual(refused(net_of, floor), ("TooMany",))
            self.assertEqual(refused(net_of, with_points(source, floor)), ("TooMany",))

    def test_fifteen_with_a_point(self):
        source = random.Random(268)
        width, height, rectangles = some_floor(source, 14)
        point = (width, height, width, height)
        for at in (0, 7, 14):
            self.assert_read_back(floor_of(width, height, *rectangles[:at], point, *rectangles[at:]))
        self.assert_read_back(floor_of(width, height, *rectangles, *[point] * 16))

    def test_no_floor_ahead_of_too_many(self):
        width, height, rectangles = some_floor(random.Random(269), 16)
        self.assert_no_floor(floor_of(width, height, *rectangles[1:]), "gap")
        self.assert_no_floor(floor_of(width, height, *rectangles, rectangles[3]), "overlap")
        self.assert_no_floor(floor_of(width, height, *rectangles, (-1, -1, 0, 0)), "out")
        self.assert_no_floor(floor_of(width, height, *rectangles, (0, 0, 0, 1)), "no")

    def test_classes(self):
        with self.assertRaises(NoFloor) as caught:
            net_of(floor_of(2, 1))
        self.assertEqual(type(caught.exception).__bases__, (FloorError,))
        self.assertNotIsInstance(caught.exception, TooMany)


if __name__ == "__main__":
    unittest.main()
