"""Points 3, 17, 18 and 19: trees and halves of a net, told one by one, and their sums."""

import itertools
import random
import unittest
from math import prod

from currentfloor.errors import TooMany
from currentfloor.floors import laid
from currentfloor.fractions import over
from currentfloor.heights import ease_of, heights
from currentfloor.trees import half_sum, halves, tree_sum, trees
from helper import (
    BRIDGE,
    ONE_ROPE,
    begun_elsewhere,
    beside_each_other,
    hanging_with,
    long_ease,
    net_by_turns,
    only_whole,
    pair,
    some_net,
    some_nets,
    value_of,
)


def all_sets(net):
    """All sets of ropes, as rising rows of their numbers."""
    numbers = range(len(net[1]))
    return [chosen for size in range(len(numbers) + 1) for chosen in itertools.combinations(numbers, size)]


def ropes_of(net, chosen):
    return [net[1][k] for k in chosen]


def joins_all(net, chosen):
    return len(hanging_with(0, ropes_of(net, chosen))) == net[0]


def is_tree(net, chosen):
    """All places hang together, and without any one of the ropes they would not."""
    return joins_all(net, chosen) and not any(joins_all(net, set(chosen) - {k}) for k in chosen)


def in_a_ring(net, chosen, k):
    """Whether the rope's two places hang together without it, too."""
    return net[1][k][1] in hanging_with(net[1][k][0], ropes_of(net, set(chosen) - {k}))


def is_half(net, chosen):
    upper = hanging_with(0, ropes_of(net, chosen))
    lower = hanging_with(1, ropes_of(net, chosen))
    alone = all((place in upper) != (place in lower) for place in range(net[0]))
    return alone and not any(in_a_ring(net, chosen, k) for k in chosen)


def worth(net, chosen):
    return prod(value_of(rope[2]) for rope in ropes_of(net, chosen))


def small_nets(seed, times=2):
    return some_nets(random.Random(seed), 9, times=times)


class OneByOne(unittest.TestCase):
    def test_one_rope(self):
        self.assertEqual(trees(ONE_ROPE), ((0,),))
        self.assertEqual(halves(ONE_ROPE), ((),))

    def test_two_places(self):
        for count in range(1, 10):
            net = beside_each_other([(k + 1, 1) for k in range(count)])
            self.assertEqual(trees(net), tuple((k,) for k in range(count)))
            self.assertEqual(halves(net), ((),))

    def test_bridge(self):
        self.assertEqual(trees(BRIDGE), (
            (0, 1, 3), (0, 1, 4), (0, 2, 3), (0, 2, 4), (0, 3, 4), (1, 2, 3), (1, 2, 4), (1, 3, 4),
        ))
        # Of all pairs only 0, 3 and 1, 4 join the poles.
        self.assertEqual(halves(BRIDGE), ((0, 1), (0, 2), (0, 4), (1, 2), (1, 3), (2, 3), (2, 4), (3, 4)))

    def test_ropes_from_a_place_to_itself(self):
        net = net_by_turns(((0, 2, 3, 6), (1, 7, 4, 5)), [(2, 1), (3, 1), (5, 1)])
        self.assertEqual(trees(net), ((0,),))
        self.assertEqual(halves(net), ((),))
        self.assertEqual((tree_sum(net), half_sum(net)), ((2, 1), (1, 1)))

    def test_all_sets_of_ropes(self):
        for net in small_nets(17):
            sets = all_sets(net)
            told = trees(net)
            self.assertEqual(told, tuple(sorted(chosen for chosen in sets if is_tree(net, chosen))))
            self.assertTrue(only_whole(told))
            self.assertTrue(all(len(tree) == net[0] - 1 for tree in told))
            told = halves(net)
            self.assertEqual(told, tuple(sorted(chosen for chosen in sets if is_half(net, chosen))))
            self.assertTrue(only_whole(told))
            self.assertTrue(all(len(half) == net[0] - 2 for half in told))

    def test_nine_ropes_with_rings_and_twins(self):
        nets = [some_net(random.Random(seed), 4, 9) for seed in range(30)]
        self.assertTrue(any(rope[0] == rope[1] for net in nets for rope in net[1]))
        self.assertTrue(any(len({frozenset(rope[:2]) for rope in net[1]}) < 6 for net in nets))
        for net in nets:
            self.assertEqual(trees(net), tuple(chosen for chosen in all_sets(net) if is_tree(net, chosen)))
            self.assertEqual(halves(net), tuple(chosen for chosen in all_sets(net) if is_half(net, chosen)))

    def test_too_many(self):
        source = random.Random(18)
        for count in range(10, 15):
            for places in range(2, count + 2):
                net = some_net(source, places, count)
                for function in (trees, halves):
                    with self.assertRaises(TooMany):
                        function(net)

    def test_nine_are_not_too_many(self):
        source = random.Random(19)
        for places in range(2, 11):
            net = some_net(source, places, 9)
            self.assertGreaterEqual(len(trees(net)), 1)
            self.assertGreaterEqual(len(halves(net)), 1)

    def test_turns_begun_elsewhere(self):
        source = random.Random(20)
        for net in small_nets(20, 1):
            begun = (net[0], net[1], begun_elsewhere(net[2], source))
            told = [function(net) for function in (trees, halves, tree_sum, half_sum)]
            self.assertEqual([function(begun) for function in (trees, halves, tree_sum, half_sum)], told)


def sums_without_telling(net):
    """The sums of the worths of all trees and halves, a rope at a time: parts of places, and what they are worth."""
    parts = {tuple(range(net[0])): 1}
    for one, other, ease in net[1]:
        more = dict(parts)
        for row, value in parts.items():
            if row[one] != row[other]:
                joined = tuple(min(row[one], row[other]) if at in (row[one], row[other]) else at for at in row)
                more[joined] = more.get(joined, 0) + value * value_of(ease)
        parts = more
    whole = sum(value for row, value in parts.items() if set(row) == {0})
    split = sum(value for row, value in parts.items() if set(row) == {0, 1})
    return (pair(whole), pair(split))


class Sums(unittest.TestCase):
    def test_by_hand(self):
        self.assertEqual((tree_sum(ONE_ROPE), half_sum(ONE_ROPE)), ((2, 1), (1, 1)))
        three = beside_each_other([(1, 1), (2, 1), (3, 1)])
        self.assertEqual((tree_sum(three), half_sum(three)), ((6, 1), (1, 1)))
        # 1 2 1/3, 1 2 5, 1 3/2 1/3, 1 3/2 5, 1 1/3 5, 2 3/2 1/3, 2 3/2 5, 2 1/3 5.
        self.assertEqual(tree_sum(BRIDGE), (119, 3))
        # 1 2, 1 3/2, 1 5, 2 3/2, 2 1/3, 3/2 1/3, 3/2 5, 1/3 5.
        self.assertEqual(half_sum(BRIDGE), (131, 6))

    def test_worths_of_what_is_told_one_by_one(self):
        for net in small_nets(21) + some_nets(random.Random(22), 9, long_ease):
            self.assertEqual(tree_sum(net), pair(sum(worth(net, tree) for tree in trees(net))))
            self.assertEqual(half_sum(net), pair(sum(worth(net, half) for half in halves(net))))
            self.assertTrue(only_whole((tree_sum(net), half_sum(net))))

    def test_up_to_fourteen_ropes(self):
        for net in some_nets(random.Random(23), 14):
            self.assertEqual((tree_sum(net), half_sum(net)), sums_without_telling(net))

    def test_ten_ropes_and_more(self):
        source = random.Random(24)
        for count in range(10, 15):
            eases = [long_ease(source) for rope in range(count)]
            net = beside_each_other(eases)
            self.assertEqual((tree_sum(net), half_sum(net)), (pair(sum(map(value_of, eases))), (1, 1)))

    def test_fourteen_ropes_and_fifteen_places(self):
        source = random.Random(25)
        for time in range(6):
            net = some_net(source, 15, 14, long_ease)
            # All ropes are the only tree; without one of those between the poles they are a half.
            everything = worth(net, range(14))
            self.assertEqual(tree_sum(net), pair(everything))
            rests = [[k for k in range(14) if k != gone] for gone in range(14)]
            split = [rest for rest in rests if is_half(net, rest)]
            self.assertEqual(half_sum(net), pair(sum(worth(net, rest) for rest in split)))


class TheSameByAllRoads(unittest.TestCase):
    def test_ease(self):
        for net in small_nets(26) + some_nets(random.Random(27), 9, long_ease):
            ease = ease_of(net)
            told = sum(worth(net, tree) for tree in trees(net)) / sum(worth(net, half) for half in halves(net))
            self.assertEqual(ease, pair(told))
            self.assertEqual(ease, over(tree_sum(net), half_sum(net)))
            floor = laid(net, (355, 113))
            self.assertEqual(ease, over(floor[0], floor[1]))

    def test_ease_of_greater_nets(self):
        source = random.Random(28)
        for count in range(10, 15):
            for places in range(2, count + 2):
                net = some_net(source, places, count)
                self.assertEqual(ease_of(net), over(tree_sum(net), half_sum(net)))
                floor = laid(net, (1, 1))
                self.assertEqual(ease_of(net), over(floor[0], floor[1]))

    def test_heights(self):
        for net in small_nets(29, 1):
            told = [(worth(net, half), hanging_with(0, ropes_of(net, half))) for half in halves(net)]
            everything = sum(value for value, upper in told)
            levels = [sum(value for value, upper in told if place in upper) / everything for place in range(net[0])]
            self.assertEqual(heights(net), tuple(pair(level) for level in levels))


if __name__ == "__main__":
    unittest.main()
