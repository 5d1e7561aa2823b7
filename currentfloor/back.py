"""The net that a floor is laid of, read back from the floor."""

from currentfloor.errors import TooMany
from currentfloor.floors import numbers_of, whole_floor, without_points
from currentfloor.fractions import common_bottom, fraction
from currentfloor.looks import check_covers
from currentfloor.nets import told_turns


def level_sides(width, height, rectangles):
    """All level sides as (level, left, right), from above, those of like levels from the left."""
    sides = [(height, 0, width), (0, 0, width)]
    for left, low, right, high in rectangles:
        sides.append((high, left, right))
        sides.append((low, left, right))
    return sorted(sides, key=lambda side: (-side[0], side[1]))


def lines_of(sides):
    """The lines of level sides that come from above and from the left, as (level, left, right), in this order."""
    lines = []
    for level, left, right in sides:
        if lines and lines[-1][0] == level and left <= lines[-1][2]:
            lines[-1] = (level, lines[-1][1], max(right, lines[-1][2]))
        else:
            lines.append((level, left, right))
    return lines


def placed(lines):
    """The lines in the order of their places: the uppermost, the lowest, the others."""
    return [lines[0], lines[-1]] + lines[1:-1]


def place_at(lines, level, x):
    """The place of the line that goes through this point."""
    for place, line in enumerate(lines):
        if line[0] == level and line[1] <= x and x <= line[2]:
            return place
    return None


def rope_of(lines, rectangle):
    """The rope of a rectangle, from the line of its upper side to that of its lower side."""
    left = rectangle[0]
    low = rectangle[1]
    right = rectangle[2]
    high = rectangle[3]
    return (place_at(lines, high, left), place_at(lines, low, left), fraction(right - left, high - low))


def turns_of(places, ropes, lefts):
    """The turns of the places: the ropes above from right to left, those below from left to right."""
    outer = len(ropes)
    above = [[] for place in range(places)]
    below = [[] for place in range(places)]
    for k in sorted(range(outer), key=lambda rope: lefts[rope]):
        below[ropes[k][0]].append(2 * k)
        above[ropes[k][1]].insert(0, 2 * k + 1)
    above[0].append(2 * outer)
    below[1].append(2 * outer + 1)
    return told_turns([tuple(one + other) for one, other in zip(above, below)])


def net_of(floor):
    """The net of a floor that covers: its places are the lines, its ropes the rectangles that are no points."""
    check_covers(floor)
    solid = without_points(floor)
    if len(solid[2]) > 14:
        raise TooMany("a net has at most fourteen ropes")
    whole = whole_floor(solid, common_bottom(numbers_of(solid)))
    lines = placed(lines_of(level_sides(whole[0], whole[1], whole[2])))
    ropes = tuple([rope_of(lines, rectangle) for rectangle in whole[2]])
    lefts = [rectangle[0] for rectangle in whole[2]]
    return (len(lines), ropes, turns_of(len(lines), ropes, lefts))
