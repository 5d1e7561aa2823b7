"""Floors looked at: whether their rectangles cover them just once."""

from currentfloor.errors import NoFloor
from currentfloor.floors import numbers_of, whole_floor
from currentfloor.fractions import common_bottom, fraction


def is_neither(rectangle):
    """Whether it is neither a rectangle nor a point."""
    if rectangle[0] > rectangle[2] or rectangle[1] > rectangle[3]:
        return True
    return (rectangle[0] == rectangle[2]) != (rectangle[1] == rectangle[3])


def is_out(rectangle, width, height):
    """Whether it has a point not in the floor."""
    return rectangle[0] < 0 or rectangle[1] < 0 or rectangle[2] > width or rectangle[3] > height


def overlap(one, other):
    """Whether the insides of both have a point in common."""
    across = max(one[0], other[0]) < min(one[2], other[2])
    upward = max(one[1], other[1]) < min(one[3], other[3])
    return across and upward


def first_overlap(rectangles):
    """The least pair of rectangles that overlap, None where there is none."""
    for j, one in enumerate(rectangles):
        for k in range(j + 1, len(rectangles)):
            if overlap(one, rectangles[k]):
                return (j, k)
    return None


def borders(rectangles, at, most):
    """All numbers at this place of the rectangles and two places on, nought and the most, rising."""
    lesser = [rectangle[at] for rectangle in rectangles]
    greater = [rectangle[at + 2] for rectangle in rectangles]
    return sorted(set([0, most] + lesser + greater))


def covered_cells(columns, rows, rectangles):
    """A dict of the cells that lie in rectangles, as (column, row)."""
    covered = {}
    for rectangle in rectangles:
        for column in range(columns.index(rectangle[0]), columns.index(rectangle[2])):
            for row in range(rows.index(rectangle[1]), rows.index(rectangle[3])):
                covered[(column, row)] = True
    return covered


def first_gap(width, height, rectangles):
    """The lowest of the cells in no rectangle, of these the one furthest left; None where there is none."""
    columns = borders(rectangles, 0, width)
    rows = borders(rectangles, 1, height)
    covered = covered_cells(columns, rows, rectangles)
    for row in range(len(rows) - 1):
        for column in range(len(columns) - 1):
            if (column, row) not in covered:
                return (columns[column], rows[row], columns[column + 1], rows[row + 1])
    return None


def looked_whole(width, height, rectangles):
    """What is found first in a floor whose numbers are all whole."""
    for k, rectangle in enumerate(rectangles):
        if is_neither(rectangle):
            return ("no", k)
    for k, rectangle in enumerate(rectangles):
        if is_out(rectangle, width, height):
            return ("out", k)
    pair = first_overlap(rectangles)
    if pair is not None:
        return ("overlap",) + pair
    gap = first_gap(width, height, rectangles)
    if gap is not None:
        return ("gap",) + gap
    return ("covers",)


def looked(floor):
    """What is found first in the floor, or that it covers."""
    # Times one number all are whole, and lie as they did.
    bottom = common_bottom(numbers_of(floor))
    whole = whole_floor(floor, bottom)
    found = looked_whole(whole[0], whole[1], whole[2])
    if found[0] == "gap":
        return ("gap",) + tuple([fraction(number, bottom) for number in found[1:]])
    return found


def covers(floor):
    """Whether the floor covers."""
    return looked(floor) == ("covers",)


def check_covers(floor):
    """Refuses a floor that does not cover."""
    found = looked(floor)
    if found != ("covers",):
        raise NoFloor(found)
