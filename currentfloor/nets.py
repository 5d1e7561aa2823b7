"""Nets: looked through, a rope's ease changed, a rope taken out."""

from currentfloor.errors import Loose, NoNet, NoRope, NoTurn, NotFlat
from currentfloor.fractions import common_part
from currentfloor.lands import rings


def is_ease(ease):
    """Whether it is a fraction above nought, with at most forty figures above and below."""
    beyond = 10 ** 40
    if len(ease) != 2:
        return False
    for number in ease:
        if number < 1 or number >= beyond:
            return False
    return common_part(ease[0], ease[1]) == 1


def check_numbers(places, ropes):
    """Refuses too few and too many places or ropes."""
    if places < 2 or places > 15:
        raise NoNet("places")
    if len(ropes) < 1 or len(ropes) > 14:
        raise NoNet("ropes")


def check_rope(places, number, rope):
    """Refuses a rope at a place that there is not, or without an ease."""
    for place in rope[:2]:
        if place < 0 or place >= places:
            raise NoRope(number, "place")
    if not is_ease(rope[2]):
        raise NoRope(number, "ease")


def ends_at(places, ropes):
    """For each place the ends that are there, rising."""
    ends = [[] for place in range(places)]
    for k, rope in enumerate(ropes):
        ends[rope[0]].append(2 * k)
        ends[rope[1]].append(2 * k + 1)
    outer = len(ropes)
    ends[0].append(2 * outer)
    ends[1].append(2 * outer + 1)
    return ends


def check_turns(places, ropes, turns):
    """Refuses turns that have not just the ends of their places."""
    for place, ends in enumerate(ends_at(places, ropes)):
        turn = turns[place] if place < len(turns) else ()
        if sorted(turn) != ends:
            raise NoTurn(place)
    if len(turns) > places:
        raise NoTurn(places)


def led_to(start, ropes):
    """A dict of the places to which these ropes lead from the place start, which is among them."""
    met = {start: True}
    before = 0
    while before < len(met):
        before = len(met)
        for rope in ropes:
            if rope[0] in met or rope[1] in met:
                met[rope[0]] = True
                met[rope[1]] = True
    return met


def check_hanging(places, ropes):
    """Refuses places to which no ropes lead from place 0."""
    met = led_to(0, ropes)
    for place in range(places):
        if place not in met:
            raise Loose(place)


def check_flat(places, ropes, turns):
    """Refuses turns with another number of lands than a flat drawing has."""
    lands = len(rings(turns))
    # The outer rope is a side of lands like any other, so it is taken off with the ropes.
    if places - len(ropes) - 1 + lands != 2:
        raise NotFlat(lands)


def begun_least(turn):
    """The same ring, beginning with its least end."""
    cut = turn.index(min(turn))
    return turn[cut:] + turn[:cut]


def told_turns(turns):
    """The same turns, each beginning with its least end."""
    return tuple([begun_least(turn) for turn in turns])


def checked(places, ropes, turns):
    """The net of these, its turns as they are told, or the refusal that is found first."""
    check_numbers(places, ropes)
    for k, rope in enumerate(ropes):
        check_rope(places, k, rope)
    check_turns(places, ropes, turns)
    check_hanging(places, ropes)
    check_flat(places, ropes, turns)
    return (places, ropes, told_turns(turns))


def check_rope_number(ropes, number):
    """Refuses the number of a rope that there is not."""
    if number < 0 or number >= len(ropes):
        raise NoRope(number, "number")


def eased(net, rope, ease):
    """The net with another ease of this rope."""
    check_rope_number(net[1], rope)
    if not is_ease(ease):
        raise NoRope(rope, "ease")
    ropes = list(net[1])
    ropes[rope] = (ropes[rope][0], ropes[rope][1], ease)
    return (net[0], tuple(ropes), told_turns(net[2]))


def turn_without(turn, rope):
    """The turn without the rope's ends, those of the ropes behind it less by two."""
    kept = [end for end in turn if end // 2 != rope]
    return tuple([end - 2 if end // 2 > rope else end for end in kept])


def taken_out(net, rope):
    """The net without this rope, ropes and ends numbered anew."""
    check_rope_number(net[1], rope)
    ropes = net[1][:rope] + net[1][rope + 1:]
    check_hanging(net[0], ropes)
    turns = [turn_without(turn, rope) for turn in net[2]]
    return (net[0], ropes, told_turns(turns))
