"""Floors: laid of a net, without their points, turned by a quarter; their numbers."""

from currentfloor.fractions import less, minus, plus, times, wholes
from currentfloor.heights import heights, runnings_by
from currentfloor.lands import land_of


def land_sides(lands, widths):
    """The x of each land by the lands of the ends, and by how far each rope has its two lands apart."""
    outer = len(widths)
    sides = {lands[2 * outer]: (0, 1)}
    # Ropes alone lead from each land to each other, as the outer rope joins two places.
    while len(sides) <= max(lands):
        for k, width in enumerate(widths):
            right = lands[2 * k]
            left = lands[2 * k + 1]
            if left in sides and right not in sides:
                sides[right] = plus(sides[left], width)
            elif right in sides and left not in sides:
                sides[left] = minus(sides[right], width)
    return sides


def rising(one, other):
    """Both, the lesser one first."""
    return (other, one) if less(other, one) else (one, other)


def laid(net, fall):
    """The floor of the net: a rectangle of each rope, as high as it falls and as wide as what runs through it."""
    levels = [times(level, fall) for level in heights(net)]
    lands = land_of(net[2])
    sides = land_sides(lands, runnings_by(net, levels))
    rectangles = []
    for k, rope in enumerate(net[1]):
        across = rising(sides[lands[2 * k]], sides[lands[2 * k + 1]])
        upward = rising(levels[rope[0]], levels[rope[1]])
        rectangles.append((across[0], upward[0], across[1], upward[1]))
    width = sides[lands[2 * len(net[1]) + 1]]
    return (width, fall, tuple(rectangles))


def is_point(rectangle):
    """Whether it is as narrow and as low as can be."""
    return rectangle[0] == rectangle[2] and rectangle[1] == rectangle[3]


def without_points(floor):
    """The floor without its points, the others in their order."""
    return (floor[0], floor[1], tuple([rectangle for rectangle in floor[2] if not is_point(rectangle)]))


def turned_rectangle(rectangle, height):
    """The rectangle of a floor of this height, turned with it."""
    low = rectangle[1]
    high = rectangle[3]
    return (minus(height, high), rectangle[0], minus(height, low), rectangle[2])


def turned(floor):
    """The floor turned by a quarter against the clock."""
    height = floor[1]
    return (height, floor[0], tuple([turned_rectangle(rectangle, height) for rectangle in floor[2]]))


def numbers_of(floor):
    """All numbers of the floor: width, height, and those of the rectangles."""
    numbers = [floor[0], floor[1]]
    for rectangle in floor[2]:
        numbers.extend(list(rectangle))
    return numbers


def whole_floor(floor, bottom):
    """Width, height and rectangles times a number that all bottoms divide, as whole numbers."""
    sides = wholes(floor[:2], bottom)
    return (sides[0], sides[1], [wholes(rectangle, bottom) for rectangle in floor[2]])
