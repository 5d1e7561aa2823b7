"""Tables of fractions: their measures, and their answers to a right row."""

from currentfloor.errors import NoAnswer
from currentfloor.fractions import common_bottom, fraction, wholes


def led(rows, k):
    """The rows with one at place k whose number at k is not nought; None where there is none from there on."""
    for place in range(k, len(rows)):
        if rows[place][k] != 0:
            exchanged = list(rows)
            if place != k:
                # To exchange two rows turns the measure's sign, to turn the signs of a row turns it back.
                exchanged[k] = rows[place]
                exchanged[place] = [-number for number in rows[k]]
            return exchanged
    return None


def swept_row(row, lead, k, before):
    """The row with nought at k, by the row that leads there."""
    # All numbers are measures of parts of the first rows, so the division leaves no rest.
    return [(lead[k] * number - row[k] * other) // before for number, other in zip(row, lead)]


def swept(rows):
    """Whole rows with noughts below the diagonal, the measure at its end; None where the measure is nought."""
    size = len(rows)
    before = 1
    for k in range(size):
        rows = led(rows, k)
        if rows is None:
            return None
        lead = rows[k]
        rows = rows[:k + 1] + [swept_row(row, lead, k, before) for row in rows[k + 1:]]
        before = lead[k]
    return rows


def measure(table):
    """The determinant of the table, of no rows 1."""
    if len(table) == 0:
        return (1, 1)
    bottoms = [common_bottom(row) for row in table]
    rows = swept([wholes(row, bottom) for row, bottom in zip(table, bottoms)])
    if rows is None:
        return (0, 1)
    product = 1
    for bottom in bottoms:
        product = product * bottom
    return fraction(rows[-1][-1], product)


def found_back(rows):
    """The answer of swept rows, each with its number of the right row behind it."""
    size = len(rows)
    whole = rows[-1][size - 1]
    # Times the measure all answers are whole, so they are sought so, from the last one back.
    found = []
    for k in range(size - 1, -1, -1):
        row = rows[k]
        known = sum([number * other for number, other in zip(row[k + 1:size], found)])
        found = [(row[size] * whole - known) // row[k]] + found
    return tuple([fraction(number, whole) for number in found])


def answer(table, right):
    """The row with which the table comes to the right row."""
    if len(table) == 0:
        return ()
    joined = [row + (number,) for row, number in zip(table, right)]
    rows = swept([wholes(row, common_bottom(row)) for row in joined])
    if rows is None:
        raise NoAnswer("the measure of the table is nought")
    return found_back(rows)
