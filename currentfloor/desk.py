"""A desk that keeps nets by names, and answers lines."""

from currentfloor.back import net_of
from currentfloor.codes import floor_by
from currentfloor.errors import NoLine, NoName, NoText
from currentfloor.floors import laid, without_points
from currentfloor.fractions import written
from currentfloor.heights import ease_of
from currentfloor.nets import eased, taken_out
from currentfloor.other import other_net
from currentfloor.settle import settled
from currentfloor.squares import brought
from currentfloor.texts import ease_read, is_number, net_read, net_text
from currentfloor.trees import tree_sum

# How many words each line has; that of sizes has now more, now less.
LENGTHS = {
    "net": 3,
    "other": 2,
    "show": 2,
    "names": 1,
    "drop": 2,
    "ease": 2,
    "trees": 2,
    "set": 4,
    "out": 3,
    "floor": 2,
    "settle": 2,
}


def words_of(line):
    """The words of a line; all that stands behind the name of a net is one."""
    words = line.split(" ")
    return line.split(" ", 2) if words[0] == "net" else words


def has_length(words):
    """Whether there is a line with this first word and as many words."""
    if words[0] == "sizes":
        # The word, a name, a width, a height, and one to thirty sizes.
        return 5 <= len(words) and len(words) <= 34
    return words[0] in LENGTHS and len(words) == LENGTHS[words[0]]


def is_ease_text(text):
    """Whether it is written as an ease."""
    try:
        ease_read(text)
    except NoText:
        return False
    return True


def is_side(text):
    """Whether it is written as a width, a height or a size."""
    return is_number(text, 3) and text != "0"


def are_written(words):
    """Whether the numbers of the line are written as they are in such a line."""
    if words[0] == "sizes":
        return all([is_side(word) for word in words[2:]])
    if words[0] == "set":
        return is_number(words[2], 3) and is_ease_text(words[3])
    if words[0] == "out":
        return is_number(words[2], 3)
    return True


def check_line(words):
    """Refuses words that are no line."""
    # The text of a net may be without signs: whatever it is, it is read later.
    plain = words[:2] if words[0] == "net" else words
    if "" in plain or not has_length(words) or not are_written(words):
        raise NoLine("there is no such line")


def is_name(text):
    """Whether it is one to eight small letters."""
    if len(text) < 1 or len(text) > 8:
        return False
    return all([sign in "abcdefghijklmnopqrstuvwxyz" for sign in text])


def check_name(nets, words):
    """Refuses a name that is none, or by which no net stands where one must."""
    name = words[1]
    if not is_name(name):
        raise NoName(name)
    if words[0] not in ("net", "sizes") and name not in nets:
        raise NoName(name)


def net_by(nets, words):
    """The net that is to be kept by a line."""
    if words[0] == "net":
        return net_read(words[2])
    if words[0] == "sizes":
        numbers = [int(word) for word in words[2:]]
        return net_of(floor_by(numbers[0], numbers[1], tuple(numbers[2:])))
    net = nets[words[1]]
    if words[0] == "other":
        return other_net(net)
    if words[0] == "set":
        return eased(net, int(words[2]), ease_read(words[3]))
    return taken_out(net, int(words[2]))


def floor_text(floor):
    """A floor in whole numbers: its width and its height, then its rectangles."""
    sides = " ".join([written(side) for side in floor[:2]])
    rectangles = [" ".join([written(number) for number in rectangle]) for rectangle in floor[2]]
    return sides + ": " + "; ".join(rectangles)


def answer_of(net, word):
    """What is told of a net when it is asked with this word."""
    if word == "show":
        return net_text(net)
    if word == "ease":
        return written(ease_of(net))
    if word == "trees":
        return written(tree_sum(net))
    # Brought to whole numbers, and counted, a floor is the same with each fall.
    floor = laid(net, (1, 1))
    if word == "floor":
        return floor_text(brought(floor))
    return str(len(settled(without_points(floor))[1][2]))


class Desk:
    """Nets by names, at first none."""

    def __init__(self):
        self.nets = {}

    def tell(self, line):
        """The answer to a line."""
        words = words_of(line)
        check_line(words)
        if words[0] == "names":
            return " ".join(sorted(self.nets)) if self.nets else "none"
        check_name(self.nets, words)
        if words[0] == "drop":
            self.nets.pop(words[1])
            return "dropped"
        if words[0] in ("net", "sizes", "other"):
            self.nets[words[1]] = net_by(self.nets, words)
            return "kept"
        if words[0] in ("set", "out"):
            self.nets[words[1]] = net_by(self.nets, words)
            return written(ease_of(self.nets[words[1]]))
        return answer_of(self.nets[words[1]], words[0])
