"""Points 1, 2 and 3, and the interface: what the whole program promises."""

import importlib
import inspect
import math
import random
import unittest
from fractions import Fraction

from currentfloor.back import net_of
from currentfloor.books import all_codes
from currentfloor.codes import code_of, floor_by
from currentfloor.floors import laid, turned, without_points
from currentfloor.fractions import over
from currentfloor.heights import ease_of, heights, lost, runnings
from currentfloor.looks import looked
from currentfloor.nets import checked
from currentfloor.other import other_net
from currentfloor.settle import settled, walked
from currentfloor.squares import brought, is_squares
from currentfloor.texts import net_read, net_text
from currentfloor.trees import half_sum, halves, tree_sum, trees
from helper import (
    ease_one,
    end_by_chance,
    floor_of,
    hung_up,
    long_ease,
    only_whole,
    pair,
    some_floors,
    some_nets,
    some_squares,
    value_of,
    values_of,
)

INTERFACE = {
    "fractions": {
        "fraction": "top bottom", "plus": "one other", "minus": "one other", "times": "one other", "over": "one other",
        "less": "one other", "written": "one",
    },
    "lands": {"rings": "turns", "land_of": "turns"},
    "nets": {"checked": "places ropes turns", "eased": "net rope ease", "taken_out": "net rope"},
    "texts": {"net_text": "net", "net_read": "text"},
    "tables": {"measure": "table", "answer": "table right"},
    "heights": {"heights": "net", "runnings": "net", "ease_of": "net", "lost": "net levels"},
    "trees": {"trees": "net", "halves": "net", "tree_sum": "net", "half_sum": "net"},
    "floors": {"laid": "net fall", "without_points": "floor", "turned": "floor"},
    "looks": {"looked": "floor"},
    "back": {"net_of": "floor"},
    "other": {"other_net": "net"},
    "steps": {"Above": "one other", "Beside": "one other", "Split": "one other first second", "step_of": "told"},
    "settle": {"fitting": "floor", "settled": "floor", "walked": "floor steps"},
    "squares": {"brought": "floor", "is_squares": "floor", "is_unlike": "floor"},
    "codes": {"code_of": "floor", "floor_by": "width height sizes"},
    "books": {"all_codes": "width height most", "fewest": "width height"},
    "desk": {"Desk": ""},
}
METHODS = {
    "steps": {kind: {"told": "", "done": "floor", "back": "floor"} for kind in ("Above", "Beside", "Split")},
    "desk": {"Desk": {"tell": "line"}},
}


def arguments(function):
    return [name for name in inspect.signature(function).parameters if name != "self"]


def worth(net, row):
    product = Fraction(1)
    for rope in row:
        product *= value_of(net[1][rope][2])
    return product


def all_nets(seed):
    """Nets of one to fourteen ropes, drawn by a told row of numbers, with eases short, long and all 1."""
    source = random.Random(seed)
    return some_nets(source, 14) + some_nets(source, 14, long_ease)[::4] + some_nets(source, 14, ease_one)[::2]


def is_point(rectangle):
    return rectangle[:2] == rectangle[2:]


def all_numbers(floor):
    return [*floor[:2], *[number for rectangle in floor[2] for number in rectangle]]


class TheInterface(unittest.TestCase):
    def test_names_and_arguments(self):
        for file, names in INTERFACE.items():
            module = importlib.import_module("currentfloor." + file)
            for name, words in names.items():
                self.assertEqual(arguments(getattr(module, name)), words.split(), (file, name))

    def test_methods(self):
        for file, classes in METHODS.items():
            module = importlib.import_module("currentfloor." + file)
            for kind, methods in classes.items():
                for name, words in methods.items():
                    self.assertEqual(arguments(getattr(getattr(module, kind), name)), words.split(), (kind, name))


class OfNets(unittest.TestCase):
    def test_heights(self):
        for net in all_nets(400):
            levels = values_of(heights(net))
            self.assertEqual(levels[:2], [1, 0])
            self.assertTrue(all(0 <= level <= 1 for level in levels))
            comes = [Fraction(0)] * net[0]
            for (one, other, ease), running in zip(net[1], values_of(runnings(net))):
                comes[one] -= running
                comes[other] += running
            self.assertEqual(comes[2:], [0] * (net[0] - 2))
            # The measure of the table is not nought, so there are no others.
            self.assertNotEqual(half_sum(net), (0, 1))

    def test_floor(self):
        for net in all_nets(401):
            floor = laid(net, (7, 4))
            self.assertEqual(looked(floor), ("covers",))
            for running, rectangle in zip(runnings(net), floor[2]):
                self.assertEqual(running == (0, 1), is_point(rectangle))

    def test_ease_by_four_roads(self):
        for net in all_nets(402):
            ease = ease_of(net)
            self.assertEqual(over(tree_sum(net), half_sum(net)), ease)
            floor = laid(net, (3, 2))
            self.assertEqual(over(floor[0], floor[1]), ease)
            if len(net[1]) <= 9:
                first = sum(worth(net, row) for row in trees(net))
                second = sum(worth(net, row) for row in halves(net))
                self.assertEqual(pair(first / second), ease)

    def test_no_other_heights_lose_less(self):
        source = random.Random(403)
        for net in all_nets(404):
            least = value_of(lost(net, heights(net)))
            self.assertEqual(pair(least), ease_of(net))
            for time in range(3):
                inner = [pair(Fraction(source.randint(-9, 9), source.randint(1, 9))) for place in range(2, net[0])]
                levels = ((1, 1), (0, 1), *inner)
                self.assertEqual(value_of(lost(net, levels)) > least, levels != heights(net))

    def test_read_back_and_laid_again(self):
        for net in all_nets(405):
            floor = laid(net, (5, 8))
            self.assertEqual(laid(net_of(floor), (5, 8)), without_points(floor))
            self.assertEqual(net_read(net_text(net)), checked(*net))

    def test_the_other_net(self):
        for net in all_nets(406):
            floor = laid(net, (5, 8))
            self.assertEqual(laid(other_net(net), floor[0]), turned(floor))

    def test_drawn_together(self):
        source = random.Random(407)
        for net in all_nets(408)[::2]:
            floor = without_points(laid(net, (1, 1)))
            steps, end = settled(floor)
            self.assertEqual(walked(floor, steps), end)
            self.assertEqual(end_by_chance(source, floor), end)

    def test_all_that_is_told_is_tuples(self):
        for net in all_nets(409)[::5]:
            floor = laid(net, (1, 3))
            told = (heights(net), runnings(net), ease_of(net), floor, turned(floor), without_points(floor))
            told += (net_of(floor), other_net(net), settled(without_points(floor))[1], brought(floor), tree_sum(net))
            self.assertTrue(only_whole(told))


class OfFloors(unittest.TestCase):
    def test_read_back_and_laid_again(self):
        for floor in some_floors(random.Random(410), 14, 2):
            net = net_of(floor)
            self.assertEqual(laid(net, floor[1]), floor)
            self.assertEqual(ease_of(net), over(floor[0], floor[1]))
            self.assertEqual(over(tree_sum(net), half_sum(net)), ease_of(net))

    def test_the_other_net(self):
        for floor in some_floors(random.Random(411), 14, 2):
            self.assertEqual(laid(other_net(net_of(floor)), floor[0]), turned(floor))

    def test_drawn_together(self):
        source = random.Random(412)
        for floor in some_floors(source, 14, 2):
            end = settled(floor)[1]
            for time in range(2):
                self.assertEqual(end_by_chance(source, floor), end)


class OfSquares(unittest.TestCase):
    def test_nets_of_ease_one(self):
        for net in some_nets(random.Random(420), 14, ease_one):
            floor = laid(net, (1, 1))
            self.assertTrue(is_squares(without_points(floor)))
            small = brought(floor)
            tops = [number[0] for number in all_numbers(small)]
            self.assertEqual({number[1] for number in all_numbers(small)}, {1})
            self.assertEqual(math.gcd(*tops), 1)
            great = laid(net, half_sum(net))
            self.assertEqual({number[1] for number in all_numbers(great)}, {1})
            self.assertEqual((great[0], great[1]), (tree_sum(net), half_sum(net)))
            if len(net[1]) <= 9:
                self.assertEqual((great[0][0], great[1][0]), (len(trees(net)), len(halves(net))))

    def test_one_row_of_sizes(self):
        for net in some_nets(random.Random(421), 14, ease_one):
            floor = brought(without_points(laid(net, (1, 1))))
            again = floor_by(floor[0][0], floor[1][0], code_of(floor))
            self.assertEqual((again[:2], sorted(again[2])), (floor[:2], sorted(floor[2])))

    def test_all_of_them_are_told(self):
        source = random.Random(422)
        for time in range(300):
            width, height, sizes = some_squares(source)
            if max(width, height) <= 5 and len(sizes) <= 7:
                floor = floor_of(width, height, *hung_up(width, height, sizes))
                for most in range(8):
                    times = all_codes(width, height, most).count(code_of(floor))
                    self.assertEqual(times, 1 if len(sizes) <= most else 0)


if __name__ == "__main__":
    unittest.main()
