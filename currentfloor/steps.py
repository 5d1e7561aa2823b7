"""Steps that draw a floor together, and split it again."""

from currentfloor.errors import NoFit, NoStep
from currentfloor.floors import rising
from currentfloor.fractions import less
from currentfloor.looks import covers


def is_pair(count, j, k):
    """Whether of so many rectangles there are both numbers, the first one less than the second."""
    return 0 <= j and j < k and k < count


def touches(rectangle, level, left, right):
    """Whether it has a level side with a point in common with the one at this level."""
    if rectangle[1] != level and rectangle[3] != level:
        return False
    return not less(rectangle[2], left) and not less(right, rectangle[0])


def common_level(one, other):
    """The level of the side at which the one stands on the other, whichever; None where there is none."""
    if one[1] == other[3]:
        return one[1]
    if other[1] == one[3]:
        return other[1]
    return None


def is_above(rectangles, j, k):
    """Whether one of both stands on the other, just as wide, and no third touches the side between them."""
    left = rectangles[j][0]
    right = rectangles[j][2]
    level = common_level(rectangles[j], rectangles[k])
    if level is None or left != rectangles[k][0] or right != rectangles[k][2]:
        return False
    for number, third in enumerate(rectangles):
        if number != j and number != k and touches(third, level, left, right):
            return False
    return True


def is_beside(rectangles, j, k):
    """Whether both stand beside each other, at the same heights."""
    one = rectangles[j]
    other = rectangles[k]
    if one[1] != other[1] or one[3] != other[3]:
        return False
    return one[2] == other[0] or other[2] == one[0]


def together(one, other):
    """The rectangle of both."""
    left = rising(one[0], other[0])[0]
    low = rising(one[1], other[1])[0]
    right = rising(one[2], other[2])[1]
    high = rising(one[3], other[3])[1]
    return (left, low, right, high)


def check_fits(step, floor):
    """Refuses a step that does not fit."""
    if not step.fits(floor):
        raise NoFit("the step does not fit the floor")


def joined(step, floor):
    """The floor with both rectangles of the step together."""
    check_fits(step, floor)
    rectangles = list(floor[2])
    rectangles[step.one] = together(rectangles[step.one], rectangles[step.other])
    rectangles.pop(step.other)
    return (floor[0], floor[1], tuple(rectangles))


def parting(step, floor):
    """The split that leads back from where a step above or beside leads."""
    check_fits(step, floor)
    return Split(step.one, step.other, floor[2][step.one], floor[2][step.other])


class Step:
    """A step from a floor to another one, with the two numbers that each kind has."""

    def __init__(self, one, other):
        self.one = one
        self.other = other


class Above(Step):
    """Two rectangles, one above the other, become one."""

    def told(self):
        """The step as a tuple."""
        return ("above", self.one, self.other)

    def fits(self, floor):
        """Whether the step can be done."""
        rectangles = floor[2]
        return is_pair(len(rectangles), self.one, self.other) and is_above(rectangles, self.one, self.other)

    def done(self, floor):
        """The floor that the step makes."""
        return joined(self, floor)

    def back(self, floor):
        """The step that leads back to this floor."""
        return parting(self, floor)


class Beside(Step):
    """Two rectangles, one beside the other, become one."""

    def told(self):
        """The step as a tuple."""
        return ("beside", self.one, self.other)

    def fits(self, floor):
        """Whether the step can be done."""
        rectangles = floor[2]
        return is_pair(len(rectangles), self.one, self.other) and is_beside(rectangles, self.one, self.other)

    def done(self, floor):
        """The floor that the step makes."""
        return joined(self, floor)

    def back(self, floor):
        """The step that leads back to this floor."""
        return parting(self, floor)


class Split(Step):
    """A rectangle becomes two."""

    def __init__(self, one, other, first, second):
        Step.__init__(self, one, other)
        self.first = first
        self.second = second

    def told(self):
        """The step as a tuple."""
        return ("split", self.one, self.other, self.first, self.second)

    def made(self, floor):
        """The floor with both parts in, whether they fit or not; the numbers are such as may be."""
        rectangles = list(floor[2])
        rectangles[self.one] = self.first
        rectangles.insert(self.other, self.second)
        return (floor[0], floor[1], tuple(rectangles))

    def joining(self):
        """The step that draws both parts together again, if one does."""
        if is_beside([self.first, self.second], 0, 1):
            return Beside(self.one, self.other)
        return Above(self.one, self.other)

    def fits(self, floor):
        """Whether the step can be done."""
        if not is_pair(len(floor[2]) + 1, self.one, self.other):
            return False
        made = self.made(floor)
        joining = self.joining()
        return covers(made) and joining.fits(made) and joining.done(made) == floor

    def done(self, floor):
        """The floor that the step makes."""
        check_fits(self, floor)
        return self.made(floor)

    def back(self, floor):
        """The step that leads back to this floor."""
        check_fits(self, floor)
        return self.joining()


def step_of(told):
    """The step of a tuple."""
    if told[0] == "above":
        return Above(told[1], told[2])
    if told[0] == "beside":
        return Beside(told[1], told[2])
    if told[0] == "split":
        return Split(told[1], told[2], told[3], told[4])
    raise NoStep("there is no such step")
