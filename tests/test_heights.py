"""Points 3, 14, 15 and 16: heights, runnings, the ease of a net, and what levels lose."""

import random
import unittest
from fractions import Fraction

from currentfloor.errors import Loose
from currentfloor.fractions import plus
from currentfloor.heights import ease_of, heights, lost, runnings
from currentfloor.nets import eased, taken_out
from helper import (
    BRIDGE,
    ONE_ROPE,
    begun_elsewhere,
    beside_each_other,
    long_ease,
    only_whole,
    pair,
    some_net,
    some_nets,
    value_of,
    values_of,
)


def net_of_ropes(places, ropes):
    """A net with these ropes; heights don't ask how it is drawn, so its turns are as they come."""
    turns = [[] for place in range(places)]
    for k, rope in enumerate(ropes + ((0, 1, None),)):
        turns[rope[0]].append(2 * k)
        turns[rope[1]].append(2 * k + 1)
    return (places, ropes, tuple(tuple(turn) for turn in turns))


def in_a_row(eases):
    """Ropes one below the other."""
    count = len(eases)
    row = [0] + list(range(2, count + 1)) + [1]
    return net_of_ropes(count + 1, tuple((row[k], row[k + 1], ease) for k, ease in enumerate(eases)))


def many_nets():
    return some_nets(random.Random(14), 14, times=2) + some_nets(random.Random(15), 14, long_ease)


def away(net, levels, place):
    """What runs away from a place by these levels, end by end."""
    total = Fraction(0)
    for one, other, ease in net[1]:
        if one == place:
            total += value_of(ease) * (levels[one] - levels[other])
        if other == place:
            total += value_of(ease) * (levels[other] - levels[one])
    return total


def loss_of(net, levels):
    return sum(value_of(ease) * (levels[one] - levels[other]) ** 2 for one, other, ease in net[1])


class HeightCase(unittest.TestCase):
    def assert_fractions(self, told, count):
        self.assertIs(type(told), tuple)
        self.assertEqual(len(told), count)
        self.assertTrue(only_whole(told))
        for one in told:
            self.assertEqual(one, pair(value_of(one)))


class Heights(HeightCase):
    def test_two_places(self):
        self.assertEqual(heights(ONE_ROPE), ((1, 1), (0, 1)))
        self.assertEqual(heights(beside_each_other(((3, 2), (1, 7)))), ((1, 1), (0, 1)))

    def test_one_below_the_other(self):
        self.assertEqual(heights(in_a_row(((1, 1), (1, 1)))), ((1, 1), (0, 1), (1, 2)))
        self.assertEqual(heights(in_a_row(((1, 1), (2, 1), (1, 2)))), ((1, 1), (0, 1), (5, 7), (4, 7)))

    def test_fifteen_places(self):
        told = heights(in_a_row(((1, 1),) * 14))
        self.assertEqual(told, ((1, 1), (0, 1)) + tuple(pair(Fraction(14 - k, 14)) for k in range(1, 14)))

    def test_bridge(self):
        # Place 2: 1 (h - 1) + 3/2 (h - g) + 1/3 h = 0; place 3: 2 (g - 1) + 3/2 (g - h) + 5 g = 0.
        self.assertEqual(heights(BRIDGE), ((1, 1), (0, 1), (69, 131), (43, 131)))

    def test_places_that_hang_on_one_rope(self):
        one = (1, 1)
        net = net_of_ropes(5, ((0, 1, one), (0, 2, one), (3, 1, (1, 9)), (4, 3, (7, 1))))
        self.assertEqual(heights(net), ((1, 1), (0, 1), (1, 1), (0, 1), (0, 1)))
        net = net_of_ropes(4, ((0, 2, one), (2, 1, (2, 1)), (3, 2, (5, 1))))
        self.assertEqual(heights(net), ((1, 1), (0, 1), (1, 3), (1, 3)))

    def test_ropes_from_a_place_to_itself(self):
        for place in range(4):
            ropes = BRIDGE[1] + ((place, place, (7, 3)),)
            self.assertEqual(heights(net_of_ropes(4, ropes)), heights(BRIDGE))
            self.assertEqual(ease_of(net_of_ropes(4, ropes)), ease_of(BRIDGE))

    def test_as_much_comes_as_goes(self):
        for net in many_nets():
            told = heights(net)
            self.assert_fractions(told, net[0])
            self.assertEqual(told[:2], ((1, 1), (0, 1)))
            levels = values_of(told)
            for place in range(2, net[0]):
                self.assertEqual(away(net, levels, place), 0)

    def test_between_the_poles(self):
        for net in many_nets():
            for level in values_of(heights(net)):
                self.assertTrue(0 <= level <= 1)

    def test_all_eases_alike_times_a_number(self):
        for net in some_nets(random.Random(16), 9):
            greater = [(one, other, pair(7 * value_of(ease))) for one, other, ease in net[1]]
            self.assertEqual(heights((net[0], tuple(greater), net[2])), heights(net))

    def test_turns_begun_elsewhere(self):
        source = random.Random(17)
        for net in some_nets(source, 7):
            begun = (net[0], net[1], begun_elsewhere(net[2], source))
            self.assertEqual(heights(begun), heights(net))
            self.assertEqual(runnings(begun), runnings(net))
            self.assertEqual(ease_of(begun), ease_of(net))


class Runnings(HeightCase):
    def test_by_hand(self):
        self.assertEqual(runnings(ONE_ROPE), ((2, 1),))
        self.assertEqual(runnings(beside_each_other(((3, 2), (1, 7)))), ((3, 2), (1, 7)))
        self.assertEqual(runnings(in_a_row(((1, 1), (1, 1)))), ((1, 2), (1, 2)))
        # Told of the rope as it goes: upward it is below nought.
        self.assertEqual(runnings(net_of_ropes(2, ((1, 0, (3, 2)),))), ((-3, 2),))
        self.assertEqual(runnings(BRIDGE), ((62, 131), (176, 131), (39, 131), (23, 131), (215, 131)))

    def test_nothing_runs(self):
        one = (1, 1)
        net = net_of_ropes(4, ((0, 1, one), (0, 0, one), (1, 2, one), (3, 2, one), (3, 3, one)))
        self.assertEqual(runnings(net), ((1, 1), (0, 1), (0, 1), (0, 1), (0, 1)))

    def test_ease_times_fall(self):
        for net in many_nets():
            told = runnings(net)
            self.assert_fractions(told, len(net[1]))
            levels = values_of(heights(net))
            for rope, running in zip(net[1], told):
                self.assertEqual(value_of(running), value_of(rope[2]) * (levels[rope[0]] - levels[rope[1]]))


class EaseOfANet(HeightCase):
    def test_by_hand(self):
        self.assertEqual(ease_of(ONE_ROPE), (2, 1))
        self.assertEqual(ease_of(BRIDGE), (238, 131))
        self.assertEqual(ease_of(net_of_ropes(2, ((1, 0, (3, 2)), (0, 0, (9, 1)), (1, 1, (9, 1))))), (3, 2))

    def test_beside_each_other_eases_are_added(self):
        source = random.Random(18)
        for count in range(1, 15):
            eases = [long_ease(source) for rope in range(count)]
            self.assertEqual(ease_of(beside_each_other(eases)), pair(sum(values_of(eases))))

    def test_one_below_the_other(self):
        source = random.Random(19)
        for count in range(1, 15):
            eases = [long_ease(source) for rope in range(count)]
            self.assertEqual(ease_of(in_a_row(eases)), pair(1 / sum(1 / value_of(ease) for ease in eases)))

    def test_what_runs_away_above_comes_below(self):
        for net in many_nets():
            told = ease_of(net)
            self.assert_fractions((told,), 1)
            levels = values_of(heights(net))
            self.assertEqual(value_of(told), away(net, levels, 0))
            self.assertEqual(value_of(told), -away(net, levels, 1))
            self.assertGreater(told[0], 0)


def some_levels(source, net):
    """Any levels with 1 and 0 at the poles."""
    inner = [Fraction(source.randint(-50, 50), source.randint(1, 20)) for place in range(2, net[0])]
    return [Fraction(1), Fraction(0)] + inner


def rowed(levels):
    return tuple(pair(level) for level in levels)


class Lost(HeightCase):
    def test_by_hand(self):
        self.assertEqual(lost(ONE_ROPE, ((3, 1), (1, 2))), (25, 2))
        self.assertEqual(lost(ONE_ROPE, ((0, 1), (0, 1))), (0, 1))
        self.assertEqual(lost(ONE_ROPE, ((-1, 1), (2, 1))), (18, 1))
        net = net_of_ropes(3, ((0, 2, (1, 2)), (2, 1, (3, 1)), (2, 2, (9, 1))))
        self.assertEqual(lost(net, ((1, 1), (0, 1), (-1, 3))), (11, 9))

    def test_any_levels(self):
        source = random.Random(20)
        for net in many_nets():
            levels = [Fraction(source.randint(-99, 99), source.randint(1, 99)) for place in range(net[0])]
            told = lost(net, rowed(levels))
            self.assert_fractions((told,), 1)
            self.assertEqual(told, pair(loss_of(net, levels)))

    def test_the_same_everywhere_loses_nothing(self):
        for net in some_nets(random.Random(21), 9):
            self.assertEqual(lost(net, ((-7, 3),) * net[0]), (0, 1))

    def test_heights_lose_the_ease(self):
        for net in many_nets():
            self.assertEqual(lost(net, heights(net)), ease_of(net))

    def test_other_levels_lose_what_their_differences_lose_beside(self):
        source = random.Random(22)
        for net in many_nets():
            levels = some_levels(source, net)
            differences = [one - other for one, other in zip(levels, values_of(heights(net)))]
            beside = lost(net, rowed(differences))
            self.assertEqual(lost(net, rowed(levels)), plus(ease_of(net), beside))

    def test_no_other_levels_with_the_same_poles_lose_as_little(self):
        source = random.Random(23)
        for net in some_nets(source, 14):
            ease = value_of(ease_of(net))
            told = values_of(heights(net))
            for place in range(2, net[0]):
                for step in (Fraction(1, 10 ** 50), Fraction(-1, 7)):
                    moved = told[:place] + [told[place] + step] + told[place + 1:]
                    self.assertGreater(value_of(lost(net, rowed(moved))), ease)
            levels = some_levels(source, net)
            self.assertTrue(levels == told or value_of(lost(net, rowed(levels))) > ease)


class MadeEasier(HeightCase):
    def test_a_rope_made_easier(self):
        source = random.Random(24)
        for net in some_nets(source, 14):
            before = value_of(ease_of(net))
            for number in range(len(net[1])):
                old = value_of(net[1][number][2])
                easier = old + Fraction(source.randint(1, 9), source.randint(1, 9))
                behind = value_of(ease_of(eased(net, number, pair(easier))))
                self.assertGreaterEqual(behind, before)
                # Just where something runs it makes a difference.
                self.assertEqual(behind > before, runnings(net)[number] != (0, 1))

    def test_a_rope_made_less_easy(self):
        source = random.Random(25)
        for net in some_nets(source, 14):
            number = source.randrange(len(net[1]))
            harder = value_of(net[1][number][2]) / source.randint(2, 9)
            self.assertLessEqual(value_of(ease_of(eased(net, number, pair(harder)))), value_of(ease_of(net)))

    def test_a_rope_taken_out(self):
        done = 0
        for net in some_nets(random.Random(26), 14):
            before = value_of(ease_of(net))
            for number in range(len(net[1])):
                try:
                    rest = taken_out(net, number)
                except Loose:
                    continue
                self.assertLessEqual(value_of(ease_of(rest)), before)
                self.assertEqual(value_of(ease_of(rest)) < before, runnings(net)[number] != (0, 1))
                done += 1
        self.assertGreater(done, 100)

    def test_eases_of_forty_figures(self):
        source = random.Random(27)
        for places in (2, 8, 14):
            net = some_net(source, places, 14, long_ease)
            for number in range(14):
                easier = eased(net, number, (10 ** 40 - 1, 1))
                self.assertGreaterEqual(value_of(ease_of(easier)), value_of(ease_of(net)))


if __name__ == "__main__":
    unittest.main()
