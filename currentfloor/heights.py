"""The heights of a net's places, what runs through its ropes, and what levels lose."""

from currentfloor.fractions import minus, plus, times
from currentfloor.tables import answer


def ease_table(net):
    """For all places, at the place itself the eases of its ropes to other places, elsewhere less those between both."""
    rows = [[(0, 1)] * net[0] for place in range(net[0])]
    for one, other, ease in net[1]:
        if one != other:
            rows[one][one] = plus(rows[one][one], ease)
            rows[other][other] = plus(rows[other][other], ease)
            rows[one][other] = minus(rows[one][other], ease)
            rows[other][one] = minus(rows[other][one], ease)
    return tuple([tuple(row) for row in rows])


def poleless(table):
    """The table without its rows and numbers of the two poles."""
    return tuple([row[2:] for row in table[2:]])


def heights(net):
    """The height of each place: 1 and 0 at the poles, elsewhere as much comes as goes."""
    table = ease_table(net)
    # Place 0 has the height 1, so what the eases to it bring stands in the right row.
    right = tuple([minus((0, 1), row[0]) for row in table[2:]])
    return ((1, 1), (0, 1)) + answer(poleless(table), right)


def fall_of(rope, levels):
    """The level of the rope's place one less that of its place other."""
    return minus(levels[rope[0]], levels[rope[1]])


def runnings_by(net, levels):
    """What runs through each rope by these levels."""
    return tuple([times(rope[2], fall_of(rope, levels)) for rope in net[1]])


def runnings(net):
    """What runs through each rope."""
    return runnings_by(net, heights(net))


def ease_of(net):
    """What runs away from place 0."""
    ease = (0, 1)
    for rope, running in zip(net[1], runnings(net)):
        if rope[0] == 0:
            ease = plus(ease, running)
        if rope[1] == 0:
            ease = minus(ease, running)
    return ease


def lost(net, levels):
    """The sum over the ropes of what runs by these levels times the fall."""
    loss = (0, 1)
    for rope, running in zip(net[1], runnings_by(net, levels)):
        loss = plus(loss, times(running, fall_of(rope, levels)))
    return loss
