"""Points 3, 20, 22, 23 and 24: floors laid of nets, without their points, and turned."""

import random
import unittest
from fractions import Fraction

from currentfloor.floors import laid, turned, without_points
from currentfloor.fractions import over
from currentfloor.heights import ease_of, heights, runnings
from currentfloor.lands import land_of
from currentfloor.looks import looked
from helper import (
    BRIDGE,
    ONE_ROPE,
    begun_elsewhere,
    ease_one,
    floor_of,
    long_ease,
    net_by_turns,
    only_whole,
    pair,
    some_net,
    some_nets,
    value_of,
    values_of,
)

ONE = (1, 1)
FALLS = (
    ONE, (7, 1), (1, 7), (3, 2), (10 ** 9 - 1, 1), (1, 10 ** 9 - 1), (10 ** 9 - 1, 10 ** 9 - 2), (123456789, 987654320),
)


def upside_down(net, number):
    """The net with one rope gone the other way: its places and its ends are exchanged."""
    one, other, ease = net[1][number]
    ropes = net[1][:number] + ((other, one, ease),) + net[1][number + 1:]
    turns = tuple(tuple(end ^ 1 if end // 2 == number else end for end in turn) for turn in net[2])
    return (net[0], ropes, turns)


def many_nets(seed):
    return some_nets(random.Random(seed), 14) + some_nets(random.Random(seed + 1), 14, long_ease)


class FloorCase(unittest.TestCase):
    def assert_floor(self, floor, count):
        """Tuples of fractions in lowest terms, of rectangles and points."""
        self.assertTrue(only_whole(floor))
        width, height, rectangles = floor
        self.assertEqual(len(rectangles), count)
        for rectangle in rectangles:
            left, low, right, high = values_of(rectangle)
            self.assertEqual(rectangle, (pair(left), pair(low), pair(right), pair(high)))
            self.assertTrue((left < right and low < high) or (left == right and low == high))
        self.assertEqual((width, height), (pair(value_of(width)), pair(value_of(height))))


class Laid(FloorCase):
    def test_one_rope(self):
        self.assertEqual(laid(ONE_ROPE, ONE), floor_of(2, 1, (0, 0, 2, 1)))
        self.assertEqual(laid(ONE_ROPE, (3, 2)), ((3, 1), (3, 2), (((0, 1), (0, 1), (3, 1), (3, 2)),)))

    def test_beside_each_other(self):
        # Against the clock from the outer rope, which goes upward, rope 0 comes ahead of rope 1, so it lies left.
        net = net_by_turns(((4, 0, 2), (5, 3, 1)), [(2, 1), (3, 1)])
        self.assertEqual(laid(net, ONE), floor_of(5, 1, (0, 0, 2, 1), (2, 0, 5, 1)))
        net = net_by_turns(((4, 2, 0), (5, 1, 3)), [(2, 1), (3, 1)])
        self.assertEqual(laid(net, ONE), floor_of(5, 1, (3, 0, 5, 1), (0, 0, 3, 1)))

    def test_one_below_the_other(self):
        net = net_by_turns(((0, 4), (3, 5), (1, 2)), [(1, 1), (1, 2)])
        self.assertEqual(laid(net, (3, 1)), floor_of(1, 3, (0, 2, 1, 3), (0, 0, 1, 2)))

    def test_bridge(self):
        self.assertEqual(laid(BRIDGE, (131, 1)), floor_of(
            238, 131, (0, 69, 62, 131), (62, 43, 238, 131), (23, 43, 62, 69), (0, 0, 23, 69), (23, 0, 238, 43),
        ))

    def test_points(self):
        # Rope 1 is a ring at place 0, left of rope 0; rope 2 leads to place 2 at the right, where nothing goes on.
        net = net_by_turns(((6, 2, 3, 0), (1, 7, 4), (5,)), [(2, 1), (1, 1), (1, 1)])
        self.assertEqual(laid(net, ONE), floor_of(2, 1, (0, 0, 2, 1), (0, 1, 0, 1), (2, 0, 2, 0)))

    def test_point_within_the_floor(self):
        # A bridge in which nothing runs: the four rectangles beside it meet in its point.
        net = net_by_turns(BRIDGE[2], [ONE] * 5)
        self.assertEqual(laid(net, (2, 1)), floor_of(
            2, 2, (0, 1, 1, 2), (1, 1, 2, 2), (1, 1, 1, 1), (0, 0, 1, 1), (1, 0, 2, 1),
        ))

    def test_as_the_point_tells(self):
        source = random.Random(22)
        for net in many_nets(30):
            fall = source.choice(FALLS)
            floor = laid(net, fall)
            self.assert_floor(floor, len(net[1]))
            self.assertEqual(floor[1], fall)
            self.check_levels(net, value_of(fall), floor)
            self.check_sides(net, value_of(fall), floor)

    def check_levels(self, net, fall, floor):
        levels = [fall * level for level in values_of(heights(net))]
        for rope, rectangle in zip(net[1], floor[2]):
            low, high = sorted((levels[rope[0]], levels[rope[1]]))
            self.assertEqual((rectangle[1], rectangle[3]), (pair(low), pair(high)))

    def check_sides(self, net, fall, floor):
        """Each land is given its x by the rectangles: all that speak of one must agree."""
        lands = land_of(net[2])
        outer = len(net[1])
        sides = {lands[2 * outer]: Fraction(0), lands[2 * outer + 1]: value_of(floor[0])}
        for k, running in enumerate(values_of(runnings(net))):
            left, low, right, high = values_of(floor[2][k])
            lesser, greater = (lands[2 * k + 1], lands[2 * k]) if running > 0 else (lands[2 * k], lands[2 * k + 1])
            self.assertEqual(sides.setdefault(lesser, left), left)
            self.assertEqual(sides.setdefault(greater, right), right)
            self.assertEqual(right - left, abs(running) * fall)
        self.assertEqual(len(sides), max(lands) + 1)

    def test_width_and_height(self):
        for net in many_nets(32):
            for fall in FALLS[:2] + FALLS[-1:]:
                floor = laid(net, fall)
                self.assertEqual(over(floor[0], floor[1]), ease_of(net))
                for rope, running, rectangle in zip(net[1], runnings(net), floor[2]):
                    left, low, right, high = values_of(rectangle)
                    if running == (0, 1):
                        self.assertEqual((left, low), (right, high))
                    else:
                        self.assertEqual((right - left) / (high - low), value_of(rope[2]))

    def test_it_covers(self):
        source = random.Random(23)
        for net in many_nets(34) + some_nets(source, 14, ease_one, 3):
            floor = laid(net, source.choice(FALLS))
            self.assertEqual(looked(floor), ("covers",))
            self.assertEqual(looked(without_points(floor)), ("covers",))
            self.assertEqual(looked(turned(floor)), ("covers",))

    def test_ropes_that_go_upward(self):
        source = random.Random(24)
        for net in some_nets(source, 14):
            fall = source.choice(FALLS)
            for number in range(len(net[1])):
                self.assertEqual(laid(upside_down(net, number), fall), laid(net, fall))

    def test_turns_begun_elsewhere(self):
        source = random.Random(25)
        for net in some_nets(source, 14):
            begun = (net[0], net[1], begun_elsewhere(net[2], source))
            self.assertEqual(laid(begun, (5, 3)), laid(net, (5, 3)))

    def test_another_fall(self):
        for net in some_nets(random.Random(26), 9):
            first = laid(net, ONE)
            for fall in FALLS:
                floor = laid(net, fall)
                for one, other in zip(first[2], floor[2]):
                    self.assertEqual([value_of(fall) * value for value in values_of(one)], values_of(other))

    def test_most_ropes_and_places(self):
        source = random.Random(27)
        for places in (2, 8, 15):
            floor = laid(some_net(source, places, 14, long_ease), FALLS[-1])
            self.assert_floor(floor, 14)


class WithoutPoints(FloorCase):
    def test_by_hand(self):
        floor = floor_of(2, 1, (1, 0, 2, 1), (0, 0, 0, 0), (0, 0, 1, 1), (2, 1, 2, 1))
        self.assertEqual(without_points(floor), floor_of(2, 1, (1, 0, 2, 1), (0, 0, 1, 1)))
        self.assertEqual(without_points(floor_of(2, 1)), floor_of(2, 1))
        self.assertEqual(without_points(floor_of(2, 1, (1, 1, 1, 1))), floor_of(2, 1))

    def test_none_there(self):
        floor = laid(BRIDGE, ONE)
        self.assertEqual(without_points(floor), floor)

    def test_the_others_keep_their_order(self):
        found = 0
        for net in some_nets(random.Random(28), 14):
            floor = laid(net, ONE)
            kept = [one for one, running in zip(floor[2], runnings(net)) if running != (0, 1)]
            self.assertEqual(without_points(floor), (floor[0], floor[1], tuple(kept)))
            found += len(floor[2]) - len(kept)
        self.assertGreater(found, 50)


class Turned(FloorCase):
    def test_by_hand(self):
        floor = ((5, 1), (3, 2), (((0, 1), (0, 1), (2, 1), (3, 2)), ((2, 1), (1, 2), (5, 1), (3, 2)), ((2, 1),) * 4))
        self.assertEqual(turned(floor), ((3, 2), (5, 1), (
            ((0, 1), (0, 1), (3, 2), (2, 1)),
            ((0, 1), (2, 1), (1, 1), (5, 1)),
            ((-1, 2), (2, 1), (-1, 2), (2, 1)),
        )))

    def test_what_lay_below_lies_right(self):
        net = net_by_turns(((0, 4), (3, 5), (1, 2)), [(1, 1), (1, 2)])
        self.assertEqual(turned(laid(net, (3, 1))), floor_of(3, 1, (0, 0, 1, 1), (1, 0, 3, 1)))

    def test_turned_four_times(self):
        source = random.Random(29)
        for net in many_nets(36):
            floor = laid(net, source.choice(FALLS))
            once = turned(floor)
            self.assert_floor(once, len(floor[2]))
            self.assertEqual((once[0], once[1]), (floor[1], floor[0]))
            self.assertEqual(turned(turned(turned(once))), floor)

    def test_turned_twice(self):
        floor = laid(BRIDGE, (131, 1))
        width, height = values_of(floor[:2])
        twice = turned(turned(floor))
        for one, other in zip(floor[2], twice[2]):
            left, low, right, high = values_of(one)
            self.assertEqual(values_of(other), [width - right, height - high, width - left, height - low])

    def test_nothing_changes(self):
        floor = laid(BRIDGE, ONE)
        before = laid(BRIDGE, ONE)
        turned(floor)
        without_points(floor)
        self.assertEqual(floor, before)


if __name__ == "__main__":
    unittest.main()
