"""Points 2, 5, 6, 7, 9 and 10: nets looked through, a rope's ease changed, a rope taken out."""

import copy
import itertools
import random
import unittest
from math import gcd

from currentfloor.errors import Loose, NoRope
from currentfloor.nets import checked, eased, taken_out
from helper import (
    BRIDGE,
    ONE_ROPE,
    begun_elsewhere,
    begun_with_least,
    beside_each_other,
    hanging_with,
    lands_by_walking,
    long_ease,
    net_by_turns,
    only_whole,
    refused,
    some_net,
    some_nets,
)

LONGEST = 10 ** 40 - 1
GOOD_EASES = (
    (1, 1), (3, 2), (1, LONGEST), (LONGEST, 1), (LONGEST, LONGEST - 1), (10 ** 39, 3 ** 83), (LONGEST - 1, LONGEST),
)
BAD_EASES = (
    (0, 1), (-1, 1), (1, 0), (1, -1), (-1, -1), (0, 0), (2, 4), (6, 3), (2, 2), (LONGEST, LONGEST), (LONGEST + 1, 1),
    (1, LONGEST + 1), (10 ** 59, 1), (1, 10 ** 60 - 1), (1 - 10 ** 60, 7), (7, 1 - 10 ** 60), (10 ** 50, 10 ** 50 + 1),
    (3 * 10 ** 20, 9 * 10 ** 20 + 3),
)


def place_fault(places, rope):
    return any(not 0 <= place <= places - 1 for place in rope[:2])


def ease_fault(ease):
    return not all(1 <= number <= LONGEST for number in ease) or gcd(*ease) != 1


def turn_fault(places, ropes, turns):
    row = [ends for rope in ropes for ends in rope[:2]] + [0, 1]
    for place in range(places):
        ends = [end for end, at in enumerate(row) if at == place]
        turn = turns[place] if place < len(turns) else ()
        if sorted(turn) != ends:
            return place
    return places if len(turns) > places else None


def expected(places, ropes, turns):
    """What point 9 asks, word by word: a refusal, or None."""
    if not 2 <= places <= 15:
        return ("NoNet", "places")
    if not 1 <= len(ropes) <= 14:
        return ("NoNet", "ropes")
    for number, rope in enumerate(ropes):
        if place_fault(places, rope):
            return ("NoRope", number, "place")
        if ease_fault(rope[2]):
            return ("NoRope", number, "ease")
    if turn_fault(places, ropes, turns) is not None:
        return ("NoTurn", turn_fault(places, ropes, turns))
    for place in range(places):
        if place not in hanging_with(0, ropes):
            return ("Loose", place)
    lands = len(lands_by_walking(turns))
    return None if places - len(ropes) - 1 + lands == 2 else ("NotFlat", lands)


def put(row, at, one):
    return row[:at] + (one,) + row[at + 1:]


def with_rope(net, number, at, value):
    return (net[0], put(net[1], number, put(net[1][number], at, value)), net[2])


def with_turn(net, place, turn):
    return (net[0], net[1], put(net[2], place, turn))


class NetCase(unittest.TestCase):
    def assert_refused(self, net, *told):
        self.assertEqual(refused(checked, *net), told, net)


class LookedThrough(NetCase):
    def check(self, net):
        before = copy.deepcopy(net)
        told = checked(*net)
        self.assertEqual(told, (net[0], net[1], begun_with_least(net[2])))
        self.assertTrue(only_whole(told))
        self.assertEqual(net, before)

    def test_by_hand(self):
        self.assertEqual(checked(*ONE_ROPE), ONE_ROPE)
        self.assertEqual(checked(*BRIDGE), BRIDGE)
        self.assertEqual(checked(2, ((0, 1, (2, 1)),), ((2, 0), (3, 1))), ONE_ROPE)

    def test_begun_with_the_least_end(self):
        told = checked(BRIDGE[0], BRIDGE[1], ((10, 0, 2), (11, 9, 7), (6, 4, 1), (8, 3, 5)))
        self.assertEqual(told[2], ((0, 2, 10), (7, 11, 9), (1, 6, 4), (3, 5, 8)))

    def test_all_numbers_of_ropes_and_places(self):
        for net in some_nets(random.Random(9), 14, times=4):
            self.check(net)

    def test_all_beginnings(self):
        for net in (ONE_ROPE, BRIDGE):
            for cuts in itertools.product(*[range(len(turn)) for turn in net[2]]):
                turns = tuple(turn[cut:] + turn[:cut] for turn, cut in zip(net[2], cuts))
                self.assertEqual(checked(net[0], net[1], turns), net)

    def test_long_eases(self):
        for net in some_nets(random.Random(40), 14, long_ease):
            self.check(net)
        for ease in GOOD_EASES:
            self.check(with_rope(ONE_ROPE, 0, 2, ease))
            self.check(with_rope(BRIDGE, 4, 2, ease))

    def test_ropes_from_a_place_to_itself(self):
        self.check(net_by_turns(((0, 2, 3, 4), (1, 5)), [(1, 1), (1, 2)]))
        self.check(net_by_turns(((4, 0), (1, 3, 2, 5)), [(1, 1), (1, 2)]))
        found = [net for net in some_nets(random.Random(3), 8) if any(rope[0] == rope[1] for rope in net[1])]
        self.assertGreater(len(found), 9)

    def test_ropes_between_the_same_places(self):
        for count in range(1, 15):
            self.check(beside_each_other([(1, 1)] * count))


class Refused(NetCase):
    def test_places(self):
        for places in (-(10 ** 60) + 1, -1, 0, 1, 16, 17, 10 ** 60 - 1):
            self.assert_refused((places, BRIDGE[1], BRIDGE[2]), "NoNet", "places")

    def test_numbers_of_ropes(self):
        for count in (0, 15, 16, 40):
            self.assert_refused(beside_each_other([(1, 1)] * count), "NoNet", "ropes")

    def test_places_of_ropes(self):
        for number in range(5):
            for at in range(2):
                for place in (-1, 4, 5, -(10 ** 59), 10 ** 60 - 1):
                    self.assert_refused(with_rope(BRIDGE, number, at, place), "NoRope", number, "place")

    def test_eases_of_ropes(self):
        for ease in BAD_EASES:
            self.assert_refused(with_rope(ONE_ROPE, 0, 2, ease), "NoRope", 0, "ease")
            for number in range(5):
                self.assert_refused(with_rope(BRIDGE, number, 2, ease), "NoRope", number, "ease")

    def test_rope_by_rope(self):
        for first, second in itertools.permutations(range(5), 2):
            net = with_rope(with_rope(BRIDGE, first, 2, (2, 2)), second, 1, 4)
            told = (first, "ease") if first < second else (second, "place")
            self.assert_refused(net, "NoRope", *told)
        for number in range(5):
            net = with_rope(with_rope(BRIDGE, number, 2, (0, 1)), number, 0, -1)
            self.assert_refused(net, "NoRope", number, "place")

    def test_turns_that_lack(self):
        for count in range(4):
            self.assert_refused((4, BRIDGE[1], BRIDGE[2][:count]), "NoTurn", count)
        for place in range(4):
            self.assert_refused(with_turn(BRIDGE, place, ()), "NoTurn", place)

    def test_turns_too_many(self):
        for more in (((),), ((0,),), ((12, 13),), ((),) * 36):
            self.assert_refused((4, BRIDGE[1], BRIDGE[2] + more), "NoTurn", 4)
            self.assert_refused((2, ONE_ROPE[1], ONE_ROPE[2] + more), "NoTurn", 2)

    def test_ends_of_turns(self):
        for place, turn in enumerate(BRIDGE[2]):
            wrong = [turn[1:], turn[:-1], turn + turn[:1], turn + (12,), turn + (-1,), turn * 2]
            wrong += [put(turn, 0, turn[1]), put(turn, 1, 10 ** 60 - 1), put(turn, 1, -(10 ** 59))]
            wrong += [tuple(range(40))]
            for one in wrong:
                self.assert_refused(with_turn(BRIDGE, place, one), "NoTurn", place)

    def test_end_at_another_place(self):
        moved = with_turn(with_turn(BRIDGE, 2, (6, 4)), 3, (3, 5, 8, 1))
        self.assert_refused(moved, "NoTurn", 2)
        self.assert_refused(with_turn(BRIDGE, 3, (3, 5, 8, 1)), "NoTurn", 3)
        self.assert_refused((2, ONE_ROPE[1], ((1, 3), (0, 2))), "NoTurn", 0)

    def test_loose(self):
        inner = ((0, 1, (1, 1)), (2, 2, (1, 1)))
        self.assert_refused((3, inner, ((0, 4), (1, 5), (2, 3))), "Loose", 2)
        self.assert_refused((3, ONE_ROPE[1], ((0, 2), (1, 3), ())), "Loose", 2)
        pairs = ((0, 3, (1, 1)), (1, 3, (1, 1)), (2, 4, (1, 1)))
        self.assert_refused((5, pairs, ((0, 6), (2, 7), (4,), (1, 3), (5,))), "Loose", 2)

    def test_loose_where_the_turn_is_missing(self):
        # A place without ends, whose turn is missing, has just its ends.
        self.assert_refused((3, ONE_ROPE[1], ONE_ROPE[2]), "Loose", 2)
        self.assert_refused((15, ONE_ROPE[1], ONE_ROPE[2]), "Loose", 2)

    def test_together_by_the_outer_rope_only(self):
        self.assert_refused((4, ((0, 2, (1, 1)), (1, 3, (1, 1))), ((0, 4), (2, 5), (1,), (3,))), "Loose", 1)
        self.assert_refused((2, ((0, 0, (1, 1)),), ((0, 1, 2), (3,))), "Loose", 1)

    def test_not_flat(self):
        self.assert_refused((2, ((0, 1, (1, 1)),) * 2, ((0, 2, 4), (1, 3, 5))), "NotFlat", 1)
        self.assert_refused((4, BRIDGE[1], ((2, 0, 10),) + BRIDGE[2][1:]), "NotFlat", 2)
        loops = ((0, 1, (1, 1)), (0, 0, (1, 1)), (0, 0, (1, 1)))
        self.assert_refused((2, loops, ((0, 6, 2, 4, 3, 5), (1, 7))), "NotFlat", 2)

    def test_two_ends_exchanged(self):
        source = random.Random(90)
        found = set()
        for net in some_nets(source, 14, times=3):
            place = source.randrange(net[0])
            turn = list(net[2][place])
            one, other = source.randrange(len(turn)), source.randrange(len(turn))
            turn[one], turn[other] = turn[other], turn[one]
            changed = with_turn(net, place, tuple(turn))
            told = refused(checked, *changed)
            self.assertEqual(told, expected(*changed))
            found.add(told[0] if told else None)
        self.assertEqual(found, {None, "NotFlat"})


# Each breaks the bridge, or a net like it, in one way; they stand in the order of point 9.
FAULTS = (
    (("NoNet", "places"), lambda net: (16, net[1], net[2])),
    (("NoNet", "ropes"), lambda net: (net[0], net[1] * 4, net[2])),
    (("NoRope", 1, "place"), lambda net: with_rope(net, 1, 1, 4)),
    (("NoRope", 1, "ease"), lambda net: with_rope(net, 1, 2, (2, 4))),
    (("NoRope", 2, "place"), lambda net: with_rope(net, 2, 0, -1)),
    (("NoRope", 2, "ease"), lambda net: with_rope(net, 2, 2, (0, 1))),
    (("NoTurn", 0), lambda net: with_turn(net, 0, net[2][0][1:])),
    (("NoTurn", 2), lambda net: with_turn(net, 2, net[2][2] + (0,))),
    (("NoTurn", 3), lambda net: (net[0], net[1], net[2][:3] + ((),) + net[2][4:])),
    (("NoTurn", 4), lambda net: (net[0], net[1], net[2] + ((),))),
)
# Ropes 0-1 twice and a ring at place 3: places 2 and 3 are loose, and it is not flat either.
LOOSE = net_by_turns(((0, 2, 10), (1, 3, 11), (4, 6), (5, 7, 8, 9)), [(1, 1)] * 5)
NOT_FLAT = with_turn(BRIDGE, 0, (2, 0, 10))


class SeveralFaults(NetCase):
    def test_the_first_is_told(self):
        for net, last in ((BRIDGE, None), (LOOSE, ("Loose", 2)), (NOT_FLAT, ("NotFlat", 2))):
            for count in range(4):
                for faults in itertools.combinations(FAULTS, count):
                    broken = net
                    for told, fault in faults:
                        broken = fault(broken)
                    self.assertEqual(refused(checked, *broken), faults[0][0] if faults else last)

    def test_changed_by_chance(self):
        source = random.Random(99)
        found = {}
        for time in range(6000):
            ropes = source.randint(1, 14)
            net = some_net(source, source.randint(2, ropes + 1), ropes)
            for step in range(source.randint(1, 3)):
                net = changed_somewhere(net, source)
            told = refused(checked, *net)
            self.assertEqual(told, expected(*net), net)
            found[told[0] if told else None] = True
        self.assertEqual(set(found), {None, "NoNet", "NoRope", "NoTurn", "Loose", "NotFlat"})


def some_number(source):
    return source.choice((-(10 ** 60) + 1, -1, 0, 1, 2, 3, 5, 14, 15, 16, 29, 10 ** 40 - 1, 10 ** 40, 10 ** 60 - 1))


def changed_rope(net, source):
    number = source.randrange(len(net[1]))
    at = source.randrange(3)
    value = (some_number(source), some_number(source)) if at == 2 else some_number(source)
    return with_rope(net, number, at, value)


def changed_turn(net, source):
    place = source.randrange(len(net[2]))
    turn = list(net[2][place])
    way = source.randrange(4)
    if way == 0:
        turn.insert(source.randint(0, len(turn)), some_number(source))
    if way == 1 and turn:
        turn.pop(source.randrange(len(turn)))
    if way == 2:
        source.shuffle(turn)
    if way == 3 and turn:
        turn[source.randrange(len(turn))] = some_number(source)
    return with_turn(net, place, tuple(turn))


def rope_moved(net, source):
    """A rope's place changed, and its end brought there: no turn is wrong, but the net may be loose or not flat."""
    end = source.randrange(2 * len(net[1]))
    place = source.randrange(net[0]) if 0 < net[0] <= 15 else 0
    turns = [tuple(one for one in turn if one != end) for turn in net[2]]
    if place < len(turns):
        turns[place] = turns[place] + (end,)
    return with_rope((net[0], net[1], tuple(turns)), end // 2, end % 2, place)


def changed_somewhere(net, source):
    way = source.randrange(12)
    if way == 0:
        return (some_number(source), net[1], net[2])
    if way == 1:
        return (net[0], net[1][:source.randint(0, 3)], net[2])
    if way == 2:
        return (net[0], (net[1] * 40)[:source.randint(0, 40)], net[2])
    if way == 3:
        return (net[0], net[1], net[2][:source.randint(0, len(net[2]))])
    if way == 4:
        return (net[0], net[1], net[2] + ((),) * source.randint(1, 3))
    if way == 5 and net[1]:
        return changed_rope(net, source)
    if way in (6, 7) and net[2]:
        return changed_turn(net, source)
    if way in (8, 9, 10) and net[1] and net[2]:
        return rope_moved(net, source)
    return net


class Eased(NetCase):
    def test_by_hand(self):
        self.assertEqual(eased(ONE_ROPE, 0, (3, 7)), (2, ((0, 1, (3, 7)),), ((0, 2), (1, 3))))
        told = eased((2, ONE_ROPE[1], ((2, 0), (3, 1))), 0, (3, 7))
        self.assertEqual(told, (2, ((0, 1, (3, 7)),), ((0, 2), (1, 3))))

    def test_all_else_stays(self):
        source = random.Random(10)
        for net in some_nets(source, 14):
            for number in {0, len(net[1]) // 2, len(net[1]) - 1}:
                ease = source.choice(GOOD_EASES)
                before = copy.deepcopy(net)
                told = eased(net, number, ease)
                self.assertEqual(told, with_rope((net[0], net[1], begun_with_least(net[2])), number, 2, ease))
                self.assertTrue(only_whole(told))
                self.assertEqual(net, before)
                self.assertEqual(checked(*told), told)

    def test_no_such_rope(self):
        for number in (-(10 ** 9), -5, -1, 5, 6, 10, 11, 10 ** 9):
            for ease in ((1, 1), (0, 1), (2, 2)):
                self.assertEqual(refused(eased, BRIDGE, number, ease), ("NoRope", number, "number"))
        self.assertEqual(refused(eased, ONE_ROPE, 1, (1, 1)), ("NoRope", 1, "number"))

    def test_no_ease(self):
        for ease in BAD_EASES:
            for number in range(5):
                with self.assertRaises(NoRope):
                    eased(BRIDGE, number, ease)
                self.assertEqual(refused(eased, BRIDGE, number, ease), ("NoRope", number, "ease"))


def without_rope(net, number):
    """The net without a rope, its ends numbered anew by a dict of old and new ones."""
    kept = [end for end in range(2 * len(net[1]) + 2) if end not in (2 * number, 2 * number + 1)]
    anew = {end: place for place, end in enumerate(kept)}
    ropes = tuple(rope for k, rope in enumerate(net[1]) if k != number)
    turns = tuple(tuple(anew[end] for end in turn if end in anew) for turn in net[2])
    return (net[0], ropes, turns)


class TakenOut(NetCase):
    def test_by_hand(self):
        self.assertEqual(taken_out(BRIDGE, 0), (4, BRIDGE[1][1:], ((0, 8), (5, 9, 7), (2, 4), (1, 3, 6))))
        self.assertEqual(taken_out(BRIDGE, 2)[2], ((0, 2, 8), (5, 9, 7), (1, 4), (3, 6)))
        self.assertEqual(taken_out(BRIDGE, 4)[2], ((0, 2, 8), (7, 9), (1, 6, 4), (3, 5)))
        self.assertEqual(taken_out(BRIDGE, 4)[1], BRIDGE[1][:4])

    def test_ring_at_a_place(self):
        net = net_by_turns(((3, 4, 0, 2), (1, 5)), [(1, 1), (1, 2)])
        self.assertEqual(taken_out(net, 1), (2, ((0, 1, (1, 1)),), ((0, 2), (1, 3))))

    def test_each_rope_of_many_nets(self):
        source = random.Random(11)
        for net in some_nets(source, 14):
            for number in range(len(net[1])):
                before = copy.deepcopy(net)
                rest = without_rope(net, number)
                loose = [place for place in range(net[0]) if place not in hanging_with(0, rest[1])]
                if loose:
                    self.assertEqual(refused(taken_out, net, number), ("Loose", loose[0]))
                else:
                    told = taken_out(net, number)
                    self.assertEqual(told, (rest[0], rest[1], begun_with_least(rest[2])))
                    self.assertTrue(only_whole(told))
                    self.assertEqual(checked(*told), told)
                self.assertEqual(net, before)

    def test_no_such_rope(self):
        for number in (-(10 ** 9), -5, -1, 5, 6, 10 ** 9):
            self.assertEqual(refused(taken_out, BRIDGE, number), ("NoRope", number, "number"))
        for number in (-1, 1, 2):
            self.assertEqual(refused(taken_out, ONE_ROPE, number), ("NoRope", number, "number"))

    def test_a_place_hangs_by_it(self):
        with self.assertRaises(Loose):
            taken_out(ONE_ROPE, 0)
        self.assertEqual(refused(taken_out, ONE_ROPE, 0), ("Loose", 1))
        hanging = net_by_turns(((0, 6), (2, 7), (1, 3, 4), (5,)), [(1, 1)] * 3)
        self.assertEqual(refused(taken_out, hanging, 2), ("Loose", 3))
        self.assertEqual(refused(taken_out, hanging, 0), ("Loose", 1))
        self.assertEqual(refused(taken_out, hanging, 1), ("Loose", 1))

    def test_the_same_wherever_turns_begin(self):
        source = random.Random(12)
        for number in range(5):
            for time in range(5):
                begun = (4, BRIDGE[1], begun_elsewhere(BRIDGE[2], source))
                self.assertEqual(taken_out(begun, number), taken_out(BRIDGE, number))
                self.assertEqual(eased(begun, number, (1, 9)), eased(BRIDGE, number, (1, 9)))


if __name__ == "__main__":
    unittest.main()
