"""All rows of sizes for small sides."""

from currentfloor.codes import first_border, hung, is_full
from currentfloor.errors import TooMany


def check_between(number, least, most):
    """Refuses a number that is less than the least or greater than the most."""
    if number < least or number > most:
        raise TooMany("only small floors are told one by one")


def codes_below(border, most):
    """All rows of at most so many sizes that fill the floor below the border, sorted."""
    if is_full(border):
        return [()]
    if most == 0:
        return []
    codes = []
    size = 1
    below = hung(border, size)
    # A size that does not fit does not fit greater either, so the first such one ends the search.
    while below is not None:
        codes.extend([(size,) + code for code in codes_below(below, most - 1)])
        size = size + 1
        below = hung(border, size)
    return codes


def all_codes(width, height, most):
    """All rows of at most so many sizes that lay a floor of this width and height, sorted."""
    check_between(width, 1, 5)
    check_between(height, 1, 5)
    check_between(most, 0, 7)
    return tuple(codes_below(first_border(width, height), most))


def fewest(width, height):
    """The least number of squares that lay a floor of this width and height."""
    # Seven squares do for each of these floors, so the least number is among them.
    return min([len(code) for code in all_codes(width, height, 7)])
