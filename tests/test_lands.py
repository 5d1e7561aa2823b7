"""Points 2, 6, 7 and 8: ends, turns and the lands between the ropes."""

import itertools
import random
import unittest

from currentfloor.lands import land_of, rings
from helper import begun_elsewhere, end_behind

ONE_ROPE = ((0, 2), (1, 3))
# Poles 0 and 1, places 2 and 3; ropes 0-2, 0-3, 2-3, 2-1, 3-1 and the outer one (ends 10, 11), drawn flat:
# the outer rope leaves place 0 upward and comes to place 1 from below.
BRIDGE = ((10, 0, 2), (11, 9, 7), (1, 6, 4), (3, 5, 8))


def cycles(order):
    """The turns in which each end k is followed by order[k]."""
    turns = []
    for start in range(len(order)):
        if not any(start in turn for turn in turns):
            turn = [start]
            while order[turn[-1]] != start:
                turn.append(order[turn[-1]])
            turns.append(tuple(turn))
    return tuple(turns)


def all_turns(m):
    return [cycles(order) for order in itertools.permutations(range(2 * m + 2))]


def some_turns(source, ends, places):
    """Ends dealt out to places, of which some may get none."""
    dealt = [[] for place in range(places)]
    order = list(range(ends))
    source.shuffle(order)
    for end in order:
        source.choice(dealt).append(end)
    return tuple(tuple(turn) for turn in dealt)


class LandCase(unittest.TestCase):
    def check(self, turns):
        lands = rings(turns)
        ends = sorted(end for turn in turns for end in turn)
        self.assertIs(type(lands), tuple)
        for land in lands:
            self.assertIs(type(land), tuple)
            self.assertEqual(land[0], min(land))
            for end, behind in zip(land, land[1:] + land[:1]):
                self.assertIs(type(end), int)
                self.assertEqual(behind, end_behind(turns, end))
        self.assertEqual(sorted(end for land in lands for end in land), ends)
        firsts = [land[0] for land in lands]
        self.assertEqual(firsts, sorted(firsts))
        self.check_numbers(land_of(turns), lands, ends)

    def check_numbers(self, told, lands, ends):
        self.assertIs(type(told), tuple)
        self.assertEqual(len(told), len(ends))
        for end in ends:
            self.assertIs(type(told[end]), int)
            self.assertIn(end, lands[told[end]])


class ByHand(LandCase):
    def test_outer_rope_alone(self):
        self.assertEqual(rings(((0,), (1,))), ((0, 1),))
        self.assertEqual(land_of(((0,), (1,))), (0, 0))

    def test_outer_rope_from_a_place_to_itself(self):
        self.assertEqual(rings(((0, 1),)), ((0,), (1,)))
        self.assertEqual(land_of(((1, 0),)), (0, 1))

    def test_one_rope(self):
        self.assertEqual(rings(ONE_ROPE), ((0, 3), (1, 2)))
        self.assertEqual(land_of(ONE_ROPE), (0, 1, 1, 0))

    def test_two_ropes_beside_each_other(self):
        # Seen from place 0 rope 0 hangs left of rope 1, so between both is the land to the left of rope 0.
        turns = ((4, 0, 2), (5, 3, 1))
        self.assertEqual(rings(turns), ((0, 3), (1, 4), (2, 5)))
        self.assertEqual(land_of(turns), (0, 1, 2, 0, 1, 2))

    def test_two_ropes_one_below_the_other(self):
        turns = ((0, 4), (3, 5), (1, 2))
        self.assertEqual(rings(turns), ((0, 2, 5), (1, 4, 3)))
        self.assertEqual(land_of(turns), (0, 1, 0, 1, 1, 0))

    def test_bridge(self):
        lands = rings(BRIDGE)
        self.assertEqual(lands, ((0, 4, 3), (1, 10, 7), (2, 8, 11), (5, 6, 9)))
        self.assertEqual(land_of(BRIDGE), (0, 1, 2, 0, 0, 3, 3, 1, 2, 3, 1, 2))

    def test_order_of_a_turn_is_heeded(self):
        self.assertEqual(rings(((0, 4, 2), (5, 3, 1))), ((0, 3, 4, 1, 2, 5),))

    def test_rope_from_a_place_to_itself(self):
        # Rope 1 makes a ring at place 0; gone from end 2 it has its inside, where nothing is, to the left.
        turns = ((0, 2, 3, 4), (1, 5))
        self.assertEqual(rings(turns), ((0, 5, 3), (1, 4), (2,)))
        self.assertEqual(land_of(turns), (0, 1, 2, 0, 1, 0))
        # Gone the other way round, it has the land beside it to the left.
        turns = ((0, 3, 2, 4), (1, 5))
        self.assertEqual(rings(turns), ((0, 5, 2), (1, 4), (3,)))
        self.assertEqual(land_of(turns), (0, 1, 0, 2, 1, 0))

    def test_not_flat(self):
        self.assertEqual(rings(((0, 2, 1, 3),)), ((0, 2, 1, 3),))
        self.assertEqual(land_of(((0, 2, 1, 3),)), (0, 0, 0, 0))

    def test_turns_without_ends(self):
        turns = ((), (0, 2), (), (1, 3), ())
        self.assertEqual(rings(turns), rings(ONE_ROPE))
        self.assertEqual(land_of(turns), land_of(ONE_ROPE))
        self.assertEqual(rings(((), (1,), (0,))), ((0, 1),))

    def test_ropes_that_do_not_hang_together(self):
        self.assertEqual(rings(((0,), (1,), (2,), (3,))), ((0, 1), (2, 3)))


class ByWalking(LandCase):
    def test_all_turns_of_few_ropes(self):
        for m in range(3):
            for turns in all_turns(m):
                self.check(turns)

    def test_more_ropes(self):
        source = random.Random(8)
        for m in range(3, 41):
            for places in (1, 2, m + 1, 3 * m):
                self.check(some_turns(source, 2 * m + 2, places))

    def test_begun_at_other_ends(self):
        source = random.Random(7)
        some = [some_turns(source, 2 * m + 2, m + 1) for m in range(30)]
        for turns in all_turns(1) + [BRIDGE] + some:
            for time in range(4):
                begun = begun_elsewhere(turns, source)
                self.assertEqual(rings(begun), rings(turns))
                self.assertEqual(land_of(begun), land_of(turns))


if __name__ == "__main__":
    unittest.main()
