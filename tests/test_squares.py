"""Points 3, 33 and 34: floors brought to whole numbers, and floors of squares."""

import math
import random
import unittest
from fractions import Fraction

from currentfloor.floors import laid, turned, without_points
from currentfloor.looks import looked
from currentfloor.squares import brought, is_squares, is_unlike
from currentfloor.trees import half_sum, tree_sum
from helper import (
    BRIDGE,
    UNLIKE,
    WHEEL,
    ease_one,
    floor_of,
    hung_up,
    long_ease,
    net_by_turns,
    only_whole,
    pair,
    some_floors,
    some_nets,
    some_squares,
    values_of,
)

HALF = Fraction(1, 2)


def all_numbers(floor):
    """Width, height and all numbers of the rectangles, as Python's own fractions."""
    return values_of(floor[:2]) + [number for rectangle in floor[2] for number in values_of(rectangle)]


def times_all(floor, factor):
    """The floor, all its numbers times a factor."""
    rows = [[factor * number for number in values_of(rectangle)] for rectangle in floor[2]]
    return floor_of(*[factor * side for side in values_of(floor[:2])], *rows)


def some_number(source):
    bottom = source.choice((1, 2, 3, 4, 6, 10, 15, source.randrange(1, 10 ** 9)))
    return Fraction(source.randint(-10 ** source.randint(1, 9) + 1, 10 ** source.randint(1, 9) - 1), bottom)


class Brought(unittest.TestCase):
    def assert_brought(self, floor):
        told = brought(floor)
        self.assertTrue(only_whole(told))
        self.assertEqual(len(told[2]), len(floor[2]))
        before, after = all_numbers(floor), all_numbers(told)
        self.assertTrue(all(number.denominator == 1 for number in after))
        self.assertEqual(math.gcd(*[number.numerator for number in after]), 1)
        factor = after[0] / before[0]
        self.assertGreater(factor, 0)
        self.assertEqual(after, [factor * number for number in before])
        self.assertEqual(brought(told), told)
        return told

    def test_by_hand(self):
        self.assertEqual(brought(floor_of(2, 1, (0, 0, 2, 1))), floor_of(2, 1, (0, 0, 2, 1)))
        self.assertEqual(brought(floor_of(4, 2, (0, 0, 4, 2))), floor_of(2, 1, (0, 0, 2, 1)))
        floor = floor_of(HALF, Fraction(1, 3), (0, 0, HALF, Fraction(1, 3)))
        self.assertEqual(brought(floor), floor_of(3, 2, (0, 0, 3, 2)))
        floor = floor_of(Fraction(6, 5), Fraction(9, 5), (0, 0, Fraction(6, 5), Fraction(9, 5)))
        self.assertEqual(brought(floor), floor_of(2, 3, (0, 0, 2, 3)))

    def test_no_rectangles(self):
        self.assertEqual(brought(floor_of(4, 6)), floor_of(2, 3))
        self.assertEqual(brought(floor_of(Fraction(4, 9), Fraction(4, 9))), floor_of(1, 1))

    def test_points_count_too(self):
        floor = floor_of(4, 2, (0, 0, 4, 2), (1, 1, 1, 1))
        self.assertEqual(brought(floor), floor)
        floor = floor_of(2, 2, (0, 0, 2, 2), (HALF, 1, HALF, 1))
        self.assertEqual(brought(floor), floor_of(4, 4, (0, 0, 4, 4), (1, 2, 1, 2)))

    def test_each_number_counts(self):
        # One number at each place in turn is the only one that 2 does not divide.
        for at in range(6):
            numbers = [8, 6, 0, 2, 4, 6]
            numbers[at] += 1
            floor = floor_of(numbers[0], numbers[1], (0, 0, 4, 4), tuple(numbers[2:]))
            self.assertEqual(brought(floor), floor)
            smaller = times_all(floor, Fraction(1, 7))
            self.assertEqual(brought(smaller), floor)

    def test_below_nought_and_not_covering(self):
        floor = floor_of(6, 4, (-2, -4, -6, 8), (2, 2, 2, 6))
        self.assertEqual(brought(floor), floor_of(3, 2, (-1, -2, -3, 4), (1, 1, 1, 3)))
        floor = floor_of(2, 2, (-HALF, -1, HALF, 1))
        self.assertEqual(brought(floor), floor_of(4, 4, (-1, -2, 1, 2)))

    def test_widths_unlike_the_rest(self):
        self.assertEqual(brought(floor_of(Fraction(1, 7), 5, (0, 0, 1, 1))), floor_of(1, 35, (0, 0, 7, 7)))
        self.assertEqual(brought(floor_of(10, 15, (5, 5, 20, 25))), floor_of(2, 3, (1, 1, 4, 5)))

    def test_any_floors(self):
        source = random.Random(330)
        for time in range(400):
            width, height = abs(some_number(source)) + Fraction(1, 3), abs(some_number(source)) + Fraction(1, 3)
            rows = [[some_number(source) for side in range(4)] for one in range(source.randint(0, 6))]
            floor = floor_of(width, height, *rows)
            told = self.assert_brought(floor)
            self.assertEqual(brought(times_all(floor, Fraction(source.randint(1, 99), source.randint(1, 99)))), told)

    def test_floors_that_cover(self):
        for floor in some_floors(random.Random(331), 14):
            self.assertEqual(looked(self.assert_brought(floor)), ("covers",))

    def test_laid_floors(self):
        source = random.Random(332)
        for net in some_nets(source, 14) + some_nets(source, 14, ease_one) + some_nets(source, 6, long_ease):
            told = self.assert_brought(laid(net, (5, 3)))
            self.assertEqual(brought(laid(net, (1, 1))), told)

    def test_nothing_changes(self):
        floor = laid(BRIDGE, (1, 1))
        brought(floor)
        self.assertEqual(floor, laid(BRIDGE, (1, 1)))


class Squares(unittest.TestCase):
    def assert_squares(self, squares, unlike, floor):
        self.assertIs(is_squares(floor), squares)
        self.assertIs(is_unlike(floor), unlike)

    def test_one_square(self):
        self.assert_squares(True, True, floor_of(3, 3, (0, 0, 3, 3)))
        third = Fraction(1, 3)
        self.assert_squares(True, True, floor_of(third, third, (0, 0, third, third)))

    def test_two_like_squares(self):
        self.assert_squares(True, False, floor_of(3, 2, (0, 0, 2, 2), (2, 1, 3, 2), (2, 0, 3, 1)))
        self.assert_squares(True, False, floor_of(1, HALF, (0, 0, HALF, HALF), (HALF, 0, 1, HALF)))

    def test_unlike_squares(self):
        self.assert_squares(True, True, UNLIKE)
        self.assert_squares(True, True, turned(UNLIKE))
        self.assert_squares(True, True, times_all(UNLIKE, Fraction(2, 7)))

    def test_no_squares(self):
        self.assert_squares(False, False, floor_of(2, 1, (0, 0, 2, 1)))
        self.assert_squares(False, False, floor_of(1, 2, (0, 0, 1, 2)))
        self.assert_squares(False, False, WHEEL)
        self.assert_squares(False, False, floor_of(3, 1, (0, 0, 1, 1), (1, 0, 3, 1)))
        self.assert_squares(False, False, floor_of(2, 3, (0, 1, 2, 3), (0, 0, 2, 1)))

    def test_a_point(self):
        self.assert_squares(False, False, floor_of(3, 3, (0, 0, 3, 3), (1, 1, 1, 1)))
        self.assert_squares(False, False, floor_of(3, 3, (0, 0, 0, 0), (0, 0, 3, 3)))

    def test_not_covering(self):
        self.assert_squares(False, False, floor_of(3, 3))
        self.assert_squares(False, False, floor_of(3, 3, (0, 0, 2, 2)))
        self.assert_squares(False, False, floor_of(3, 3, (0, 0, 3, 3), (0, 0, 1, 1)))
        self.assert_squares(False, False, floor_of(3, 3, (0, 0, 4, 4)))
        self.assert_squares(False, False, floor_of(3, 3, (3, 3, 0, 0)))
        self.assert_squares(False, False, (UNLIKE[0], UNLIKE[1], UNLIKE[2][1:]))
        self.assert_squares(False, False, (UNLIKE[0], UNLIKE[1], UNLIKE[2] + UNLIKE[2][:1]))

    def test_by_chance(self):
        source = random.Random(340)
        found = set()
        for time in range(200):
            width, height, sizes = some_squares(source)
            rows = hung_up(width, height, sizes)
            source.shuffle(rows)
            floor = times_all(floor_of(width, height, *rows), Fraction(source.randint(1, 9), source.randint(1, 9)))
            unlike = all(sizes.count(size) == 1 for size in sizes)
            self.assert_squares(True, unlike, floor)
            self.assert_squares(False, False, (floor[0], floor[1], floor[2] + ((pair(0),) * 4,)))
            found.add(unlike)
        self.assertEqual(found, {True, False})


class NetsOfEaseOne(unittest.TestCase):
    def test_squares_and_points(self):
        for net in some_nets(random.Random(341), 14, ease_one, 2):
            floor = without_points(laid(net, (2, 3)))
            self.assertTrue(is_squares(floor))
            self.assertTrue(is_squares(brought(floor)))

    def test_laid_with_halves(self):
        """All numbers are whole, and the width is the sum for trees."""
        for net in some_nets(random.Random(342), 14, ease_one, 2):
            halves = half_sum(net)
            self.assertEqual(halves[1], 1)
            floor = laid(net, halves)
            self.assertTrue(all(number.denominator == 1 for number in all_numbers(floor)))
            self.assertEqual(floor[0], tree_sum(net))
            self.assertEqual(floor[1], halves)

    def test_bridge(self):
        net = net_by_turns(BRIDGE[2], [(1, 1)] * 5)
        self.assertEqual((tree_sum(net), half_sum(net)), ((8, 1), (8, 1)))
        floor = floor_of(8, 8, (0, 4, 4, 8), (4, 4, 8, 8), (4, 4, 4, 4), (0, 0, 4, 4), (4, 0, 8, 4))
        self.assertEqual(laid(net, (8, 1)), floor)
        small = floor_of(2, 2, (0, 1, 1, 2), (1, 1, 2, 2), (1, 1, 1, 1), (0, 0, 1, 1), (1, 0, 2, 1))
        self.assertEqual(brought(floor), small)


if __name__ == "__main__":
    unittest.main()
