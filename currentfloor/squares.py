"""Floors brought to whole numbers, and floors of squares."""

from currentfloor.floors import is_point, numbers_of, whole_floor
from currentfloor.fractions import common_bottom, common_part, fraction, minus
from currentfloor.looks import covers


def brought(floor):
    """The floor times one fraction, so that all its numbers are whole and no number above 1 divides all of them."""
    bottom = common_bottom(numbers_of(floor))
    whole = whole_floor(floor, bottom)
    common = common_part(whole[0], whole[1])
    for rectangle in whole[2]:
        for number in rectangle:
            common = common_part(common, number)
    rectangles = [tuple([fraction(number, common) for number in rectangle]) for rectangle in whole[2]]
    return (fraction(whole[0], common), fraction(whole[1], common), tuple(rectangles))


def width_of(rectangle):
    """How wide the rectangle is."""
    return minus(rectangle[2], rectangle[0])


def is_square(rectangle):
    """Whether it is as wide as it is high, and no point."""
    return not is_point(rectangle) and width_of(rectangle) == minus(rectangle[3], rectangle[1])


def is_squares(floor):
    """Whether the floor covers, and each of its rectangles is a square."""
    return covers(floor) and all([is_square(rectangle) for rectangle in floor[2]])


def is_unlike(floor):
    """Whether the floor is one of squares, no two of them as wide as each other."""
    widths = [width_of(rectangle) for rectangle in floor[2]]
    return is_squares(floor) and len(set(widths)) == len(widths)
