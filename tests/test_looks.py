"""Points 20 and 21: floors looked at."""

import itertools
import random
import unittest
from fractions import Fraction

from currentfloor.floors import laid, turned, without_points
from currentfloor.looks import looked
from helper import BRIDGE, WHEEL, WHEEL_BACK, floor_of, pair, some_floor, some_nets, value_of, values_of


def none_found(rectangles):
    for k, (left, low, right, high) in enumerate(rectangles):
        if left > right or low > high or (left == right) + (low == high) == 1:
            return ("no", k)


def out_found(width, height, rectangles):
    for k, (left, low, right, high) in enumerate(rectangles):
        corners = itertools.product((left, right), (low, high))
        if not all(0 <= x <= width and 0 <= y <= height for x, y in corners):
            return ("out", k)


def has_inside(rectangle, x, y):
    left, low, right, high = rectangle
    return left < x < right and low < y < high


def middles(numbers):
    row = sorted(set(numbers))
    return [(one + other) / 2 for one, other in zip(row, row[1:])]


def overlap_found(rectangles):
    for j, k in itertools.combinations(range(len(rectangles)), 2):
        both = rectangles[j] + rectangles[k]
        for x, y in itertools.product(middles(both[0::2]), middles(both[1::2])):
            if has_inside(rectangles[j], x, y) and has_inside(rectangles[k], x, y):
                return ("overlap", j, k)


def gap_found(width, height, rectangles):
    everything = sum(rectangles, ())
    columns = sorted({Fraction(0), width, *everything[0::2]})
    rows = sorted({Fraction(0), height, *everything[1::2]})
    for low, high in zip(rows, rows[1:]):
        for left, right in zip(columns, columns[1:]):
            if not any(has_inside(one, (left + right) / 2, (low + high) / 2) for one in rectangles):
                return ("gap", pair(left), pair(low), pair(right), pair(high))


def expected(floor):
    """What point 21 asks, word by word."""
    width, height = values_of(floor[:2])
    rectangles = [tuple(values_of(rectangle)) for rectangle in floor[2]]
    found = none_found(rectangles) or out_found(width, height, rectangles) or overlap_found(rectangles)
    return found or gap_found(width, height, rectangles) or ("covers",)


class LookCase(unittest.TestCase):
    def assert_found(self, width, height, rectangles, *found):
        floor = floor_of(width, height, *rectangles)
        told = looked(floor)
        self.assertEqual(told, found)
        self.assertIs(type(told), tuple)
        self.assertEqual(told, expected(floor))


class Covers(LookCase):
    def test_by_hand(self):
        self.assert_found(2, 1, [(0, 0, 2, 1)], "covers")
        self.assert_found(2, 1, [(0, 0, 1, 1), (1, 0, 2, 1)], "covers")
        self.assert_found(Fraction(5, 6), Fraction(1, 7), [(0, 0, Fraction(5, 6), Fraction(1, 7))], "covers")

    def test_with_points(self):
        everything = (0, 0, 2, 1)
        points = [(x, y, x, y) for x in (0, Fraction(1, 3), 2) for y in (0, Fraction(1, 2), 1)]
        for point in points:
            self.assert_found(2, 1, [everything, point], "covers")
            self.assert_found(2, 1, [point, point, everything], "covers")
        self.assert_found(2, 1, points + [everything], "covers")

    def test_round_a_middle(self):
        for floor in (WHEEL, WHEEL_BACK):
            self.assertEqual(looked(floor), ("covers",))
            self.assertEqual(expected(floor), ("covers",))

    def test_laid_floors(self):
        for net in some_nets(random.Random(20), 9):
            floor = laid(net, (3, 7))
            self.assertEqual(looked(floor), ("covers",))
            self.assertEqual(expected(floor), ("covers",))

    def test_up_to_thirty(self):
        source = random.Random(21)
        for count in range(1, 31):
            width, height, rectangles = some_floor(source, count)
            self.assert_found(width, height, rectangles, "covers")


class No(LookCase):
    def test_each_way(self):
        good = (0, 0, 2, 2)
        wrong = [(1, 0, 0, 1), (0, 1, 1, 0), (1, 1, 0, 0), (1, 0, 1, 1), (0, 1, 1, 1), (1, 1, 0, 1), (1, 1, 1, 0)]
        wrong += [(-1, -1, -2, -2), (Fraction(1, 2), 0, Fraction(1, 3), 1), (9, 5, 9, 6)]
        for one in wrong:
            self.assert_found(2, 2, [one], "no", 0)
            self.assert_found(2, 2, [good, one], "no", 1)
            self.assert_found(2, 2, [good, (1, 1, 1, 1), one, one], "no", 2)

    def test_ahead_of_all_else(self):
        line = (1, 0, 1, 2)
        self.assert_found(2, 2, [(0, 0, 3, 2), line], "no", 1)
        self.assert_found(2, 2, [(0, 0, 2, 2), (0, 0, 2, 2), line], "no", 2)
        self.assert_found(2, 2, [(0, 0, 1, 1), line], "no", 1)
        self.assert_found(2, 2, [(0, 0, 3, 2), (0, 0, 2, 2), (0, 0, 1, 1), line], "no", 3)


class Out(LookCase):
    def test_each_side(self):
        bit = Fraction(1, 10 ** 9)
        everything = (0, 0, 2, 2)
        wrong = [(-bit, 0, 1, 1), (0, -bit, 1, 1), (1, 1, 2 + bit, 2), (1, 1, 2, 2 + bit), (-9, -9, -8, -8)]
        wrong += [(3, 3, 4, 4), (-1, -1, 3, 3), (0, 5, 1, 6)]
        for one in wrong:
            self.assert_found(2, 2, [one], "out", 0)
            self.assert_found(2, 2, [everything, one], "out", 1)

    def test_points(self):
        bit = Fraction(1, 10 ** 9)
        everything = (0, 0, 2, 2)
        for x, y in ((-bit, 1), (1, -bit), (2 + bit, 1), (1, 2 + bit), (-5, -5), (7, 7), (-1, 2 + bit)):
            self.assert_found(2, 2, [everything, (x, y, x, y)], "out", 1)
            self.assert_found(2, 2, [(x, y, x, y), everything], "out", 0)

    def test_the_first(self):
        self.assert_found(2, 2, [(0, 0, 2, 2), (0, 0, 3, 1), (0, 0, 3, 1)], "out", 1)

    def test_ahead_of_overlap_and_gap(self):
        self.assert_found(2, 2, [(0, 0, 1, 1), (0, 0, 1, 1), (1, 1, 3, 2)], "out", 2)
        self.assert_found(2, 2, [(0, 0, 1, 1), (3, 3, 3, 3)], "out", 1)
        self.assert_found(2, 2, [(0, 0, 2, 2), (0, 0, 2, 2), (1, 1, 2, 3)], "out", 2)


class Overlap(LookCase):
    def test_two_like_rectangles(self):
        self.assert_found(2, 1, [(0, 0, 2, 1), (0, 0, 2, 1)], "overlap", 0, 1)

    def test_ways_to_overlap(self):
        first = (1, 1, 3, 3)
        others = [(0, 0, 2, 2), (2, 2, 4, 4), (0, 2, 2, 4), (2, 0, 4, 2), (0, 0, 4, 4), (0, 1, 4, 2), (2, 0, 3, 4)]
        others += [(Fraction(3, 2), Fraction(3, 2), 2, 2), (1, 1, 2, 2), (1, 0, 3, 2), (1, 0, 3, 4)]
        for other in others:
            self.assert_found(4, 4, [first, other], "overlap", 0, 1)
            self.assert_found(4, 4, [other, first], "overlap", 0, 1)

    def test_the_least_pair(self):
        left, middle, right = (0, 0, 2, 1), (1, 0, 4, 1), (3, 0, 5, 1)
        self.assert_found(5, 1, [left, right, middle], "overlap", 0, 2)
        self.assert_found(5, 1, [left, middle, right], "overlap", 0, 1)
        self.assert_found(5, 1, [middle, left, right], "overlap", 0, 1)
        alone = (4, 0, 5, 1)
        self.assert_found(5, 1, [alone, left, left, alone], "overlap", 0, 3)
        self.assert_found(5, 1, [alone, left, (3, 0, 4, 1), left, left], "overlap", 1, 3)

    def test_ahead_of_gap(self):
        self.assert_found(9, 9, [(5, 5, 7, 7), (6, 6, 8, 8)], "overlap", 0, 1)

    def test_points_do_not_overlap(self):
        self.assert_found(2, 2, [(1, 1, 1, 1), (0, 0, 2, 2), (1, 1, 1, 1)], "covers")
        self.assert_found(2, 2, [(1, 1, 1, 1), (1, 1, 1, 1)], "gap", (0, 1), (0, 1), (1, 1), (1, 1))

    def test_rectangles_that_only_touch(self):
        self.assert_found(2, 2, [(0, 0, 1, 2), (1, 0, 2, 2)], "covers")
        self.assert_found(2, 2, [(0, 0, 1, 1), (1, 1, 2, 2), (0, 1, 1, 2), (1, 0, 2, 1)], "covers")
        self.assert_found(2, 2, [(0, 0, 1, 1), (1, 1, 2, 2)], "gap", (1, 1), (0, 1), (2, 1), (1, 1))


class Gap(LookCase):
    def test_no_rectangles(self):
        self.assert_found(Fraction(3, 2), 7, [], "gap", (0, 1), (0, 1), (3, 2), (7, 1))

    def test_the_lowest_then_the_leftmost(self):
        self.assert_found(3, 2, [(1, 0, 2, 1)], "gap", (0, 1), (0, 1), (1, 1), (1, 1))
        self.assert_found(3, 2, [(0, 0, 1, 1)], "gap", (1, 1), (0, 1), (3, 1), (1, 1))
        self.assert_found(3, 2, [(0, 0, 3, 1), (0, 1, 1, 2)], "gap", (1, 1), (1, 1), (3, 1), (2, 1))
        # One gap lies left and higher, the other right and lower: the lower one is told.
        self.assert_found(3, 2, [(0, 0, 2, 1), (1, 1, 3, 2)], "gap", (2, 1), (0, 1), (3, 1), (1, 1))

    def test_bounded_by_sides_elsewhere(self):
        # The right half is empty, and is parted by the level sides of the left half.
        left = [(0, 0, 1, 1), (0, 1, 1, 2)]
        self.assert_found(3, 2, left, "gap", (1, 1), (0, 1), (3, 1), (1, 1))
        above = [(0, 1, 1, 2), (1, 1, 2, 2), (2, 1, 3, 2)]
        self.assert_found(3, 2, above, "gap", (0, 1), (0, 1), (1, 1), (1, 1))

    def test_bounded_by_points(self):
        point = (Fraction(1, 2), Fraction(3, 4), Fraction(1, 2), Fraction(3, 4))
        self.assert_found(1, 1, [point], "gap", (0, 1), (0, 1), (1, 2), (3, 4))
        self.assert_found(1, 1, [(0, 0, Fraction(1, 2), 1), point], "gap", (1, 2), (0, 1), (1, 1), (3, 4))

    def test_points_cover_nothing(self):
        self.assert_found(1, 1, [(0, 0, 0, 0), (1, 1, 1, 1)], "gap", (0, 1), (0, 1), (1, 1), (1, 1))

    def test_unlike_bottoms_and_lowest_terms(self):
        rectangles = [(0, 0, Fraction(5, 14), Fraction(1, 3)), (Fraction(2, 5), 0, 1, Fraction(1, 2))]
        self.assert_found(1, 1, rectangles, "gap", (5, 14), (0, 1), (2, 5), (1, 3))
        self.assert_found(6, 6, [(0, 0, 6, Fraction(9, 4))], "gap", (0, 1), (9, 4), (6, 1), (6, 1))

    def test_one_missing(self):
        source = random.Random(22)
        for count in range(1, 31):
            width, height, rectangles = some_floor(source, count)
            gone = rectangles.pop(source.randrange(count))
            told = looked(floor_of(width, height, *rectangles))
            self.assertEqual(told, expected(floor_of(width, height, *rectangles)))
            left, low, right, high = values_of(told[1:])
            self.assertEqual((left, low), gone[:2])
            self.assertTrue(right <= gone[2] and high <= gone[3])


def some_number(source):
    return Fraction(source.randint(-2, 8), source.choice((1, 1, 1, 2, 3)))


def changed(source, rectangles):
    """The rectangles with one left out, doubled, moved, made anew or a point put in."""
    rows = list(rectangles)
    at = source.randrange(len(rows))
    way = source.randrange(6)
    if way == 0 and len(rows) > 1:
        rows.pop(at)
    if way == 1:
        rows.insert(source.randint(0, len(rows)), rows[at])
    if way == 2:
        side = source.randrange(4)
        rows[at] = rows[at][:side] + (source.choice(source.choice(rows)),) + rows[at][side + 1:]
    if way == 3:
        x, y = source.choice(rows)[0], source.choice(rows)[3]
        rows.insert(at, (x, y, x, y))
    if way == 4:
        rows[at] = tuple(some_number(source) for side in range(4))
    if way == 5:
        step = Fraction(source.randint(-1, 1), 5)
        rows[at] = tuple(number + step for number in rows[at])
    return rows


class ByChance(LookCase):
    def test_changed_floors(self):
        source = random.Random(23)
        found = {}
        for time in range(1500):
            width, height, rectangles = some_floor(source, source.randint(1, 9))
            for step in range(source.randint(0, 2)):
                rectangles = changed(source, rectangles)
            floor = floor_of(width, height, *rectangles)
            told = looked(floor)
            self.assertEqual(told, expected(floor), floor)
            found[told[0]] = found.get(told[0], 0) + 1
        self.assertEqual(set(found), {"no", "out", "overlap", "gap", "covers"})
        self.assertGreater(min(found.values()), 50)

    def test_any_rectangles(self):
        source = random.Random(24)
        for time in range(1500):
            rectangles = [tuple(some_number(source) for side in range(4)) for one in range(source.randint(0, 3))]
            floor = floor_of(source.randint(1, 8), source.randint(1, 8), *rectangles)
            self.assertEqual(looked(floor), expected(floor), floor)

    def test_nothing_changes(self):
        floor = laid(BRIDGE, (1, 1))
        before = laid(BRIDGE, (1, 1))
        looked(floor)
        self.assertEqual(floor, before)

    def test_turned_floors_cover_alike(self):
        source = random.Random(25)
        for time in range(100):
            width, height, rectangles = some_floor(source, 12)
            floor = floor_of(width, height, *rectangles)
            self.assertEqual(looked(turned(floor)), ("covers",))
            self.assertEqual(without_points(floor), floor)

    def test_long_fractions(self):
        source = random.Random(26)
        width, height, rectangles = some_floor(source, 20)
        far = Fraction(source.randrange(10 ** 299, 10 ** 300), source.randrange(10 ** 299, 10 ** 300))
        floor = floor_of(far * width, far * height, *[[far * number for number in one] for one in rectangles])
        self.assertEqual(looked(floor), ("covers",))
        missing = (floor[0], floor[1], floor[2][1:])
        self.assertEqual(looked(missing), expected(missing))
        self.assertEqual(value_of(looked(missing)[1]), far * rectangles[0][0])


if __name__ == "__main__":
    unittest.main()
