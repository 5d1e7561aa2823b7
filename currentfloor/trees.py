"""Trees and halves of a net, told one by one, and the sums of their worths."""

from currentfloor.errors import TooMany
from currentfloor.heights import ease_table, poleless
from currentfloor.nets import led_to
from currentfloor.tables import measure


def rising_rows(count, size):
    """All rising rows of so many of the numbers below count, these rising."""
    rows = [()]
    for step in range(size):
        longer = []
        for row in rows:
            least = row[-1] + 1 if row else 0
            longer.extend([row + (number,) for number in range(least, count)])
        rows = longer
    return rows


def is_tree(net, chosen):
    """Whether places less 1 chosen ropes are a tree."""
    # So few ropes join all places only where none of them could be spared.
    return len(led_to(0, chosen)) == net[0]


def is_half(net, chosen):
    """Whether places less 2 chosen ropes are a half."""
    upper = led_to(0, chosen)
    lower = led_to(1, chosen)
    # So few ropes leave at least two parts, and just two only where there is no ring.
    return 1 not in upper and len(upper) + len(lower) == net[0]


def fitting_rows(net, size, fits):
    """The rising rows of so many ropes' numbers whose ropes fit, these rising."""
    ropes = net[1]
    if len(ropes) > 9:
        raise TooMany("sets of more than nine ropes are not told one by one")
    rows = rising_rows(len(ropes), size)
    return tuple([row for row in rows if fits(net, [ropes[k] for k in row])])


def trees(net):
    """All trees: sets of ropes by which all places hang together, and no fewer would do."""
    return fitting_rows(net, net[0] - 1, is_tree)


def halves(net):
    """All halves: sets of ropes without a ring, by which each place hangs together with just one pole."""
    return fitting_rows(net, net[0] - 2, is_half)


def tree_sum(net):
    """The sum of the worths of all trees."""
    table = ease_table(net)
    return measure(tuple([row[:1] + row[2:] for row in table[:1] + table[2:]]))


def half_sum(net):
    """The sum of the worths of all halves."""
    return measure(poleless(ease_table(net)))
