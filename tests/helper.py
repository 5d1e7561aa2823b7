"""What several tests need: flat nets and floors drawn by chance from a seed, the document's words as slow code."""

import itertools
import math
from fractions import Fraction

from currentfloor.errors import FloorError


def pair(value):
    """One of Python's own fractions, or a whole number, as the program has it."""
    value = Fraction(value)
    return (value.numerator, value.denominator)


def value_of(one):
    return Fraction(one[0], one[1])


def values_of(row):
    return [value_of(one) for one in row]


def end_behind(turns, end):
    """The next end behind an end, by the words of point 8."""
    other = {0: end + 1, 1: end - 1}[end % 2]
    for turn in turns:
        if other in turn:
            return turn[(turn.index(other) + len(turn) - 1) % len(turn)]


def land_from(turns, start):
    """The ring of ends of a land, walked from one of them."""
    ring = [start]
    while end_behind(turns, ring[-1]) != start:
        ring.append(end_behind(turns, ring[-1]))
    return ring


def lands_by_walking(turns):
    ends = [end for turn in turns for end in turn]
    return {frozenset(land_from(turns, end)) for end in ends}


def begun_elsewhere(turns, source):
    """The same rings, begun at other ends."""
    begun = []
    for turn in turns:
        cut = source.randrange(len(turn)) if turn else 0
        begun.append(turn[cut:] + turn[:cut])
    return tuple(begun)


def begun_with_least(turns):
    """The same rings, by the words of point 7."""
    return tuple(tuple(min((turn[cut:] + turn[:cut] for cut in range(len(turn))))) for turn in turns)


def hanging_with(start, ropes):
    """The places that hang together with the place start by these ropes."""
    met = {start}
    for time in ropes:
        for rope in ropes:
            if met & set(rope[:2]):
                met |= set(rope[:2])
    return met


def small_ease(source):
    return pair(Fraction(source.randint(1, 9), source.randint(1, 9)))


def long_ease(source):
    return pair(Fraction(source.randrange(10 ** 39, 10 ** 40), source.randrange(10 ** 39, 10 ** 40)))


def ease_one(source):
    return (1, 1)


class Drawing:
    """Ropes drawn one by one, each within one land, so that the drawing stays flat; rope 0 is the outer one."""

    def __init__(self, source, length):
        self.source = source
        self.turns = [[0], [1]] + [[] for place in range(length - 1)]
        row = [0] + list(range(2, length + 1)) + [1]
        for k in range(length):
            self.turns[row[k]].append(2 * k + 2)
            self.turns[row[k + 1]].append(2 * k + 3)
        self.ropes = length + 1

    def put_ahead(self, end, mark):
        for turn in self.turns:
            if mark in turn:
                turn.insert(turn.index(mark), end)
                return

    def ends(self):
        return [end for turn in self.turns for end in turn]

    def hang_place(self):
        """A new place on one rope."""
        self.put_ahead(2 * self.ropes, self.source.choice(self.ends()))
        self.turns.append([2 * self.ropes + 1])
        self.ropes += 1

    def join(self):
        """A rope through a land, from one of its corners to another one or to the same."""
        # The corner right ahead of an end lies in the land of the other end of it.
        first = self.source.choice(self.ends())
        second = self.source.choice(land_from(self.turns, first ^ 1)) ^ 1
        self.put_ahead(2 * self.ropes, first)
        self.put_ahead(2 * self.ropes + 1, second)
        self.ropes += 1

    def numbered(self):
        """Turns with ropes, their ends and the places but the poles numbered by chance, the outer rope last."""
        count = self.ropes - 1
        order = self.source.sample(range(count), count)
        flips = [self.source.randrange(2) for rope in range(count)]
        ends = {0: 2 * count, 1: 2 * count + 1}
        for rope in range(count):
            for side in range(2):
                ends[2 * rope + 2 + side] = 2 * order[rope] + (side ^ flips[rope])
        turns = [tuple(ends[end] for end in turn) for turn in self.turns]
        inner = turns[2:]
        self.source.shuffle(inner)
        return tuple(turns[:2] + inner)


def net_by_turns(turns, eases):
    """The net with these turns, its ropes' places read off them."""
    place = {end: at for at, turn in enumerate(turns) for end in turn}
    ropes = [(place[2 * k], place[2 * k + 1], ease) for k, ease in enumerate(eases)]
    return (len(turns), tuple(ropes), turns)


def beside_each_other(eases):
    """The net of ropes from pole to pole with these eases."""
    beyond = 2 * len(eases) + 2
    return net_by_turns((tuple(range(0, beyond, 2)), tuple(range(beyond - 1, 0, -2))), eases)


def some_net(source, places, ropes, ease=small_ease):
    """A flat net with so many places and ropes, which are at least places less 1; its turns begin anywhere."""
    drawing = Drawing(source, source.randint(1, places - 1))
    steps = [drawing.hang_place] * (places - len(drawing.turns))
    steps += [drawing.join] * (ropes - (places - 1))
    source.shuffle(steps)
    for step in steps:
        step()
    turns = begun_elsewhere(drawing.numbered(), source)
    return net_by_turns(turns, [ease(source) for rope in range(ropes)])


def some_nets(source, most, ease=small_ease, times=1):
    """Nets of each number of ropes up to the most, and of each number of places that goes with it."""
    return [
        some_net(source, places, ropes, ease)
        for ropes in range(1, most + 1)
        for places in range(2, ropes + 2)
        for time in range(times)
    ]


def floor_of(width, height, *rectangles):
    """A floor of Python's own numbers."""
    rows = tuple(tuple(pair(number) for number in rectangle) for rectangle in rectangles)
    return (pair(width), pair(height), rows)


def by_sevenths(source, low, high):
    """A number between both, a seventh or some more on the way."""
    return low + Fraction(source.randint(1, 6), 7) * (high - low)


def by_halves(source, low, high):
    """The number in the middle of both, so that sides often meet."""
    return (low + high) / 2


def by_nine_figures(source, low, high):
    """A number between both with nine figures below and at most as many above, where both are at most 1."""
    bottom = source.randrange(10 ** 8, 10 ** 9)
    return Fraction(source.randint(math.floor(low * bottom) + 1, math.ceil(high * bottom) - 1), bottom)


def cut_in_two(source, rectangle, between):
    left, low, right, high = rectangle
    if source.randrange(2):
        x = between(source, left, right)
        return [(left, low, x, high), (x, low, right, high)]
    y = between(source, low, high)
    return [(left, low, right, y), (left, y, right, high)]


def made_a_wheel(source, rectangle, between):
    """Five rectangles in the place of one, four of them round a middle, one way or the other."""
    left, low, right, high = rectangle
    x, y = between(source, left, right), between(source, low, high)
    far, top = between(source, x, right), between(source, y, high)
    if source.randrange(2):
        ring = [(left, low, far, y), (far, low, right, top), (x, top, right, high), (left, y, x, high)]
    else:
        ring = [(x, low, right, y), (far, y, right, high), (left, top, far, high), (left, low, x, top)]
    return ring + [(x, y, far, top)]


def some_floor(source, count, wheels=0, between=by_sevenths):
    """Width, height and so many rectangles: one cut in two, or made a wheel, again and again, in any order."""
    width = between(source, Fraction(0), Fraction(1))
    height = between(source, Fraction(0), Fraction(1))
    rectangles = [(Fraction(0), Fraction(0), width, height)]
    steps = [cut_in_two] * (count - 1 - 4 * wheels) + [made_a_wheel] * wheels
    source.shuffle(steps)
    for step in steps:
        rectangle = rectangles.pop(source.randrange(len(rectangles)))
        rectangles += step(source, rectangle, between)
    source.shuffle(rectangles)
    return (width, height, rectangles)


def some_floors(source, most, times=1):
    """Floors of each number of rectangles up to the most, with each number of wheels that goes with it."""
    floors = []
    for count in range(1, most + 1):
        for wheels in range((count - 1) // 4 + 1):
            for between in [by_sevenths, by_halves, by_nine_figures] * times:
                width, height, rectangles = some_floor(source, count, wheels, between)
                floors.append(floor_of(width, height, *rectangles))
    return floors


def stands_above(rectangles, j, k):
    """Whether above j, k fits, by the words of point 30."""
    if not 0 <= j < k < len(rectangles):
        return False
    (left, low, right, high), (start, foot, stop, top) = rectangles[j], rectangles[k]
    if (left, right) != (start, stop) or (low != top and foot != high):
        return False
    level = low if low == top else high
    others = [third for at, third in enumerate(rectangles) if at not in (j, k)]
    sides = [(y, third[0], third[2]) for third in others for y in (third[1], third[3])]
    return not any(y == level and one <= right and other >= left for y, one, other in sides)


def stands_beside(rectangles, j, k):
    """Whether beside j, k fits, by the words of point 30."""
    if not 0 <= j < k < len(rectangles):
        return False
    (left, low, right, high), (start, foot, stop, top) = rectangles[j], rectangles[k]
    return (low, high) == (foot, top) and (right == start or stop == left)


STANDS = {"above": stands_above, "beside": stands_beside}


def step_fits(floor, step):
    """Whether a step above or beside fits the floor."""
    rectangles = [tuple(values_of(rectangle)) for rectangle in floor[2]]
    return STANDS[step[0]](rectangles, *step[1:])


def steps_that_fit(floor):
    """All steps above and beside that fit, sorted."""
    rectangles = [tuple(values_of(rectangle)) for rectangle in floor[2]]
    pairs = list(itertools.product(range(len(rectangles)), repeat=2))
    return tuple((word, j, k) for word in ("above", "beside") for j, k in pairs if STANDS[word](rectangles, j, k))


def drawn_together(floor, j, k):
    """The floor with j and k together, which fit."""
    one, other = values_of(floor[2][j]), values_of(floor[2][k])
    both = [min(one[0], other[0]), min(one[1], other[1]), max(one[2], other[2]), max(one[3], other[3])]
    rows = [rectangle if at != j else tuple(pair(number) for number in both) for at, rectangle in enumerate(floor[2])]
    return (floor[0], floor[1], tuple(rows[:k] + rows[k + 1:]))


def end_by_chance(source, floor):
    """The floor at the end when of the steps that fit any one is taken."""
    steps = steps_that_fit(floor)
    while steps:
        floor = drawn_together(floor, *source.choice(steps)[1:])
        steps = steps_that_fit(floor)
    return floor


def hung_up(width, height, sizes):
    """The squares of a row of sizes, or the refusal, by the words of point 36, the border told column by column."""
    levels = [height] * width
    squares = []
    for at, size in enumerate(sizes):
        level = max(levels)
        left = levels.index(level)
        wide = len(list(itertools.takewhile(lambda column: column == level, levels[left:])))
        if size < 1 or size > wide or level - size < 0:
            return ("NoSize", at)
        squares.append((left, level - size, left + size, level))
        levels[left:left + size] = [level - size] * size
    return squares if max(levels) == 0 else ("NoSize", len(sizes))


def some_squares(source, most=30):
    """Width, height and the sizes of squares that fill it, at most so many, drawn one by one."""
    width, height = source.randint(1, 12), source.randint(1, 12)
    sizes = []
    while hung_up(width, height, sizes) == ("NoSize", len(sizes)):
        size = source.randint(1, min(width, height))
        if hung_up(width, height, sizes + [size]) != ("NoSize", len(sizes)):
            sizes.append(size)
    return (width, height, sizes) if len(sizes) <= most else some_squares(source, most)


def refused(function, *handed):
    """The class and the fields of a refusal, None where there is none."""
    try:
        function(*handed)
    except FloorError as error:
        return (type(error).__name__, *vars(error).values())
    return None


def only_whole(told):
    """Whether it is made of tuples and whole numbers alone."""
    if type(told) is tuple:
        return all(only_whole(one) for one in told)
    return type(told) is int


ONE_ROPE = (2, ((0, 1, (2, 1)),), ((0, 2), (1, 3)))
# Poles 0 and 1, places 2 and 3; the outer rope (ends 10, 11) leaves place 0 upward and comes to place 1 from below.
BRIDGE = (
    4,
    ((0, 2, (1, 1)), (0, 3, (2, 1)), (2, 3, (3, 2)), (2, 1, (1, 3)), (3, 1, (5, 1))),
    ((0, 2, 10), (7, 11, 9), (1, 6, 4), (3, 5, 8)),
)
# Five rectangles round a middle, gone round against the clock and with it.
WHEEL = floor_of(3, 3, (0, 0, 2, 1), (2, 0, 3, 2), (1, 2, 3, 3), (0, 1, 1, 3), (1, 1, 2, 2))
WHEEL_BACK = floor_of(3, 3, (1, 0, 3, 1), (2, 1, 3, 3), (0, 2, 2, 3), (0, 0, 1, 2), (1, 1, 2, 2))
# Nine squares, no two of one size: 33 wide and 32 high.
UNLIKE_SIZES = (18, 15, 7, 8, 14, 4, 10, 1, 9)
UNLIKE = floor_of(
    33, 32, (0, 14, 18, 32), (18, 17, 33, 32), (18, 10, 25, 17), (25, 9, 33, 17), (0, 0, 14, 14), (14, 10, 18, 14),
    (14, 0, 24, 10), (24, 9, 25, 10), (24, 0, 33, 9),
)
