"""Floors of squares in whole sides, written as rows of sizes, and laid by them."""

from currentfloor.errors import NoCode, NoSize
from currentfloor.looks import check_covers
from currentfloor.squares import is_square


def is_whole(rectangle):
    """Whether all its numbers are whole."""
    return all([number[1] == 1 for number in rectangle])


def code_of(floor):
    """The widths of the squares by their upper sides, falling, of like ones by left, rising."""
    check_covers(floor)
    for k, rectangle in enumerate(floor[2]):
        if not is_whole(rectangle) or not is_square(rectangle):
            raise NoCode(k)
    squares = [[number[0] for number in rectangle] for rectangle in floor[2]]
    squares = sorted(squares, key=lambda square: (-square[3], square[0]))
    return tuple([square[2] - square[0] for square in squares])


def highest(border):
    """The number of the highest piece of a border, of like ones the one furthest left."""
    found = 0
    for k, piece in enumerate(border):
        if piece[2] > border[found][2]:
            found = k
    return found


def joined_pieces(pieces):
    """The pieces, each as wide as it goes at its level."""
    border = []
    for left, right, level in pieces:
        if border and border[-1][2] == level:
            border[-1] = (border[-1][0], right, level)
        else:
            border.append((left, right, level))
    return border


def hung(border, size):
    """The border below a square hung up at its highest piece; None where the square does not fit."""
    at = highest(border)
    left = border[at][0]
    right = border[at][1]
    level = border[at][2]
    if size < 1 or size > right - left or size > level:
        return None
    pieces = border[:at] + [(left, left + size, level - size)]
    if left + size < right:
        pieces.append((left + size, right, level))
    return joined_pieces(pieces + border[at + 1:])


def first_border(width, height):
    """The border of a floor in which nothing hangs: its upper side, as pieces (left, right, level)."""
    return [(0, width, height)]


def is_full(border):
    """Whether the border is the floor's lower side."""
    return border[highest(border)][2] == 0


def square_at(border, size):
    """The rectangle of a square hung up at the border's highest piece."""
    left = border[highest(border)][0]
    level = border[highest(border)][2]
    return ((left, 1), (level - size, 1), (left + size, 1), (level, 1))


def floor_by(width, height, sizes):
    """The floor laid by a row of sizes."""
    border = first_border(width, height)
    rectangles = []
    for at, size in enumerate(sizes):
        below = hung(border, size)
        if below is None:
            raise NoSize(at)
        rectangles.append(square_at(border, size))
        border = below
    if not is_full(border):
        raise NoSize(len(sizes))
    return ((width, 1), (height, 1), tuple(rectangles))
