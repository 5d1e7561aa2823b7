"""Fractions: tuples (top, bottom) in lowest terms, bottom from 1 on."""

from currentfloor.errors import NoNumber


def common_part(one, other):
    """The greatest number that divides both, where not both are 0."""
    while other != 0:
        rest = one % other
        one = other
        other = rest
    return abs(one)


def fraction(top, bottom):
    """The fraction of any two whole numbers, the second not 0."""
    if bottom == 0:
        raise NoNumber("a fraction has no bottom 0")
    part = common_part(top, bottom)
    if bottom < 0:
        part = -part
    return (top // part, bottom // part)


def plus(one, other):
    """Both added."""
    return fraction(one[0] * other[1] + other[0] * one[1], one[1] * other[1])


def minus(one, other):
    """The other taken from the one."""
    return fraction(one[0] * other[1] - other[0] * one[1], one[1] * other[1])


def times(one, other):
    """Both multiplied."""
    return fraction(one[0] * other[0], one[1] * other[1])


def over(one, other):
    """The one divided by the other, which is not nought."""
    if other[0] == 0:
        raise NoNumber("nothing is divided by nought")
    return fraction(one[0] * other[1], one[1] * other[0])


def less(one, other):
    """Whether the one is less than the other."""
    return one[0] * other[1] < other[0] * one[1]


def common_bottom(row):
    """The least number that all bottoms of the row divide."""
    common = 1
    for one in row:
        common = common // common_part(common, one[1]) * one[1]
    return common


def wholes(row, bottom):
    """The fractions of the row times a number that their bottoms divide, as whole numbers."""
    return [one[0] * (bottom // one[1]) for one in row]


def figures(number):
    """A whole number of any size as a text."""
    # Python's str refuses numbers of some thousand figures, so it is handed short pieces alone.
    piece = 10 ** 64
    rest = abs(number)
    pieces = []
    while rest >= piece:
        pieces.append(str(rest % piece).zfill(64))
        rest = rest // piece
    pieces.append(str(rest))
    if number < 0:
        pieces.append("-")
    return "".join(reversed(pieces))


def written(one):
    """The fraction as a text: its top, and its bottom where that is not 1."""
    if one[1] == 1:
        return figures(one[0])
    return figures(one[0]) + "/" + figures(one[1])
