"""The refusals: each a class of its own, right under FloorError."""


class FloorError(ValueError):
    """Any refusal."""


class NoNet(FloorError):
    """A net with too few or too many of what word names."""

    def __init__(self, word):
        self.word = word


class NoRope(FloorError):
    """A rope of which what word names is not as it must be."""

    def __init__(self, rope, word):
        self.rope = rope
        self.word = word


class NoTurn(FloorError):
    """A place whose turn has not just its ends, each once."""

    def __init__(self, place):
        self.place = place


class Loose(FloorError):
    """A place to which no ropes lead from the upper pole."""

    def __init__(self, place):
        self.place = place


class NotFlat(FloorError):
    """Turns with so many lands that the net is not drawn flat."""

    def __init__(self, lands):
        self.lands = lands


class NoText(FloorError):
    """A text of which this part is not written as a net is."""

    def __init__(self, part):
        self.part = part


class NoFloor(FloorError):
    """A floor that does not cover; found is what the look told."""

    def __init__(self, found):
        self.found = found


class NoCode(FloorError):
    """A floor whose rectangle at this place has no whole size."""

    def __init__(self, place):
        self.place = place


class NoSize(FloorError):
    """A row of sizes of which the one at this place does not fit."""

    def __init__(self, at):
        self.at = at


class NoName(FloorError):
    """A name that is none, or by which no net stands."""

    def __init__(self, name):
        self.name = name


class NoNumber(FloorError):
    """A fraction with the bottom 0, or a quotient by nought."""


class NoAnswer(FloorError):
    """A table whose measure is nought."""


class TooMany(FloorError):
    """More than is reckoned with."""


class NoFit(FloorError):
    """A step that does not fit the floor."""


class NoStep(FloorError):
    """A tuple whose word names no step."""


class NoLine(FloorError):
    """A line that the desk does not know."""
