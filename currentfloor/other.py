"""The other net of a net: its places are the lands."""

from currentfloor.fractions import over
from currentfloor.lands import land_of, other_end, rings
from currentfloor.nets import told_turns


def lands_placed(count, upper, lower):
    """The numbers of so many lands in the order of their places: the two of the poles, the others."""
    return [upper, lower] + [land for land in range(count) if land != upper and land != lower]


def places_of(lands):
    """A dict with the place of each land."""
    places = {}
    for place, land in enumerate(lands):
        places[land] = place
    return places


def turn_of(ring, outer):
    """The ring of ends with the outer rope's two exchanged."""
    return tuple([other_end(end) if end // 2 == outer else end for end in ring])


def other_net(net):
    """The net whose places are the lands, and whose floor is the same one turned by a quarter."""
    ropes = net[1]
    outer = len(ropes)
    lands = rings(net[2])
    numbers = land_of(net[2])
    order = lands_placed(len(lands), numbers[2 * outer + 1], numbers[2 * outer])
    places = places_of(order)
    crossing = []
    for k, rope in enumerate(ropes):
        crossing.append((places[numbers[2 * k]], places[numbers[2 * k + 1]], over((1, 1), rope[2])))
    turns = [turn_of(lands[land], outer) for land in order]
    return (len(order), tuple(crossing), told_turns(turns))
