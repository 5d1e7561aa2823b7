"""Nets written as texts, and read again."""

from currentfloor.errors import NoText
from currentfloor.fractions import fraction, written
from currentfloor.nets import checked, told_turns


def rope_text(rope):
    """A rope: its two places and its ease."""
    return str(rope[0]) + " " + str(rope[1]) + " " + written(rope[2])


def turn_text(turn):
    """A turn: its ends."""
    return " ".join([str(end) for end in turn])


def net_text(net):
    """The net: its places, its ropes, its turns."""
    ropes = ", ".join([rope_text(rope) for rope in net[1]])
    turns = " | ".join([turn_text(turn) for turn in told_turns(net[2])])
    return "; ".join([str(net[0]), ropes, turns])


def is_number(text, most):
    """Whether it is a number with at most so many figures, written without signs or a 0 ahead."""
    if len(text) < 1 or len(text) > most:
        return False
    for sign in text:
        if sign not in "0123456789":
            return False
    return text == "0" or text[0] != "0"


def number_read(text, most, part):
    """The number, which stands in this part and has at most so many figures."""
    if not is_number(text, most):
        raise NoText(part)
    return int(text)


def ease_read(text):
    """The fraction of TOP or TOP/BOTTOM."""
    numbers = text.split("/")
    if len(numbers) > 2:
        raise NoText(1)
    top = number_read(numbers[0], 40, 1)
    bottom = number_read(numbers[1], 40, 1) if len(numbers) == 2 else 1
    if bottom == 0:
        raise NoText(1)
    return fraction(top, bottom)


def rope_read(text):
    """The rope of ONE OTHER EASE."""
    words = text.split(" ")
    if len(words) != 3:
        raise NoText(1)
    return (number_read(words[0], 3, 1), number_read(words[1], 3, 1), ease_read(words[2]))


def turn_read(text):
    """The turn of its ends."""
    return tuple([number_read(end, 3, 2) for end in text.split(" ")])


def net_read(text):
    """The net of a text, or the refusal of what is not written so, or is no net."""
    parts = text.split("; ")
    if len(parts) != 3:
        raise NoText(3)
    places = number_read(parts[0], 3, 0)
    ropes = tuple([rope_read(rope) for rope in parts[1].split(", ")])
    turns = tuple([turn_read(turn) for turn in parts[2].split(" | ")])
    return checked(places, ropes, turns)
