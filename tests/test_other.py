"""Points 3, 28 and 29: the other net of a net."""

import random
import unittest
from fractions import Fraction

from currentfloor.floors import laid, turned
from currentfloor.fractions import over
from currentfloor.heights import ease_of
from currentfloor.nets import checked
from currentfloor.other import other_net
from helper import (
    BRIDGE,
    ONE_ROPE,
    begun_elsewhere,
    begun_with_least,
    beside_each_other,
    ease_one,
    land_from,
    lands_by_walking,
    long_ease,
    net_by_turns,
    only_whole,
    pair,
    some_nets,
    value_of,
)

ONE = (1, 1)


def expected(net):
    """The other net that point 28 asks, word by word."""
    outer = 2 * len(net[1])
    lands = sorted(lands_by_walking(net[2]), key=min)
    upper = [land for land in lands if outer + 1 in land]
    lower = [land for land in lands if outer in land]
    order = upper + lower + [land for land in lands if land not in upper + lower]
    place = {end: at for at, land in enumerate(order) for end in land}
    ropes = [
        (place[2 * k], place[2 * k + 1], pair(1 / value_of(rope[2])))
        for k, rope in enumerate(net[1])
    ]
    exchanged = {outer: outer + 1, outer + 1: outer}
    turns = [[exchanged.get(end, end) for end in land_from(net[2], min(land))] for land in order]
    return (len(order), tuple(ropes), begun_with_least(turns))


def turned_about(net):
    """The net with its poles exchanged and each rope turned about, but for the numbers of the places: its rings."""
    eases = [rope[2] for rope in net[1]]
    return (eases, sorted(begun_with_least([[end ^ 1 for end in turn] for turn in net[2]])))


def but_for_places(net):
    """The net but for the numbers of its places: eases and rings, which tell the places of the ropes too."""
    return ([rope[2] for rope in net[1]], sorted(begun_with_least(net[2])))


def poles(net):
    """The turns of the two poles."""
    return begun_with_least(net[2])[:2]


class OtherCase(unittest.TestCase):
    def nets(self, seed):
        source = random.Random(seed)
        return some_nets(source, 14) + some_nets(source, 14, ease_one) + some_nets(source, 10, long_ease)


class TheNet(OtherCase):
    def test_one_rope(self):
        self.assertEqual(other_net(ONE_ROPE), (2, ((0, 1, (1, 2)),), ((0, 2), (1, 3))))

    def test_beside_becomes_above(self):
        # Rope 0 lies left of rope 1; of the other net it lies at the lower pole, which is the land at the left.
        net = net_by_turns(((0, 2, 4), (1, 5, 3)), [(2, 1), (3, 1)])
        told = (3, ((2, 1, (1, 2)), (0, 2, (1, 3))), ((2, 4), (1, 5), (0, 3)))
        self.assertEqual(other_net(net), told)
        self.assertEqual(laid(told, (5, 1)), turned(laid(net, ONE)))

    def test_above_becomes_beside(self):
        net = net_by_turns(((0, 4), (3, 5), (1, 2)), [(1, 1), (1, 2)])
        self.assertEqual(other_net(net), (2, ((0, 1, ONE), (0, 1, (2, 1))), ((0, 2, 4), (1, 5, 3))))

    def test_bridge(self):
        told = other_net(BRIDGE)
        self.assertEqual(told, expected(BRIDGE))
        self.assertEqual([rope[2] for rope in told[1]], [ONE, (1, 2), (2, 3), (3, 1), (1, 5)])
        self.assertEqual(told[0], 4)

    def test_rope_to_itself_hangs_a_place(self):
        # Rope 1 is a ring at place 0, round nothing: the land within it is a place that hangs on one rope.
        net = net_by_turns(((4, 3, 2, 0), (1, 5)), [(2, 1), (7, 1)])
        told = other_net(net)
        self.assertEqual(told, expected(net))
        self.assertEqual(sorted(len(turn) for turn in told[2]), [1, 2, 3])

    def test_hanging_place_becomes_a_rope_to_itself(self):
        net = net_by_turns(((4, 2, 0), (1, 5), (3,)), [(2, 1), (7, 1)])
        told = other_net(net)
        self.assertEqual(told, expected(net))
        self.assertEqual(told[1][1][0], told[1][1][1])

    def test_most_places(self):
        for net in (beside_each_other([(k, 1) for k in range(1, 15)]), beside_each_other([(2, 3)] * 14)):
            told = other_net(net)
            self.assertEqual(told[0], 15)
            self.assertEqual(told, expected(net))
            self.assertEqual(checked(*told), told)
            self.assertEqual(other_net(told)[0], 2)

    def test_as_the_point_tells(self):
        for net in self.nets(280):
            told = other_net(net)
            self.assertEqual(told, expected(net), net)
            self.assertTrue(only_whole(told))
            self.assertEqual(checked(*told), told)

    def test_turns_begun_anywhere(self):
        source = random.Random(281)
        for net in self.nets(282):
            begun = (net[0], net[1], begun_elsewhere(net[2], source))
            self.assertEqual(other_net(begun), other_net(net))

    def test_nothing_changes(self):
        before = repr(BRIDGE)
        other_net(BRIDGE)
        self.assertEqual(repr(BRIDGE), before)


class ItsFloor(OtherCase):
    def test_ease(self):
        for net in self.nets(290):
            self.assertEqual(ease_of(other_net(net)), over(ONE, ease_of(net)))

    def test_floor_turned_by_a_quarter(self):
        source = random.Random(291)
        for net in self.nets(292):
            fall = pair(Fraction(source.randint(1, 99), source.randint(1, 99)))
            floor = laid(net, fall)
            self.assertEqual(laid(other_net(net), floor[0]), turned(floor))

    def test_long_falls(self):
        for fall in ((10 ** 9 - 1, 10 ** 9 - 2), (1, 10 ** 9 - 1)):
            for net in self.nets(293)[::9]:
                floor = laid(net, fall)
                self.assertEqual(laid(other_net(net), floor[0]), turned(floor))


class OftenTaken(OtherCase):
    def test_twice_it_is_turned_about(self):
        for net in self.nets(294):
            twice = other_net(other_net(net))
            self.assertEqual(twice[0], net[0])
            self.assertEqual(but_for_places(twice), turned_about(net))
            first, second = begun_with_least([[end ^ 1 for end in turn] for turn in net[2][:2]])
            self.assertEqual(poles(twice), (second, first))

    def test_twice_it_lays_the_floor_turned_by_two_quarters(self):
        for net in self.nets(295):
            twice = other_net(other_net(net))
            self.assertEqual(laid(twice, (3, 2)), turned(turned(laid(net, (3, 2)))))
            self.assertEqual(ease_of(twice), ease_of(net))

    def test_four_times_it_is_the_net(self):
        for net in self.nets(296):
            often = other_net(other_net(other_net(other_net(net))))
            self.assertEqual(but_for_places(often), but_for_places(net))
            self.assertEqual(poles(often), poles(net))
            self.assertEqual(laid(often, (5, 1)), laid(net, (5, 1)))


if __name__ == "__main__":
    unittest.main()
