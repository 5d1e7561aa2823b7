"""Points 11 and 12: nets written as texts, and read."""

import random
import re
import unittest
from fractions import Fraction

from currentfloor.nets import checked
from currentfloor.texts import net_read, net_text
from helper import BRIDGE, ONE_ROPE, begun_elsewhere, begun_with_least, long_ease, only_whole, pair, refused, some_nets

BRIDGE_TEXT = "4; 0 2 1, 0 3 2, 2 3 3/2, 2 1 1/3, 3 1 5; 0 2 10 | 7 11 9 | 1 6 4 | 3 5 8"
LONG = "9" * 40


class Written(unittest.TestCase):
    def test_the_document_s_own(self):
        self.assertEqual(net_text(ONE_ROPE), "2; 0 1 2; 0 2 | 1 3")

    def test_by_hand(self):
        self.assertEqual(net_text(BRIDGE), BRIDGE_TEXT)

    def test_turns_begun_elsewhere(self):
        self.assertEqual(net_text((2, ONE_ROPE[1], ((2, 0), (3, 1)))), "2; 0 1 2; 0 2 | 1 3")
        source = random.Random(11)
        for time in range(20):
            self.assertEqual(net_text((4, BRIDGE[1], begun_elsewhere(BRIDGE[2], source))), BRIDGE_TEXT)

    def test_long_eases(self):
        ropes = ((0, 1, (10 ** 40 - 1, 10 ** 39)),)
        self.assertEqual(net_text((2, ropes, ONE_ROPE[2])), "2; 0 1 " + LONG + "/1" + "0" * 39 + "; 0 2 | 1 3")


class WrittenAndRead(unittest.TestCase):
    def check(self, net):
        text = net_text(net)
        self.assertIs(type(text), str)
        told = net_read(text)
        self.assertEqual(told, (net[0], net[1], begun_with_least(net[2])))
        self.assertTrue(only_whole(told))
        self.assertEqual(net_text(told), text)

    def test_many_nets(self):
        for net in some_nets(random.Random(12), 14, times=2) + some_nets(random.Random(13), 14, long_ease):
            self.check(net)


class Read(unittest.TestCase):
    def check_ease(self, text, ease):
        self.assertEqual(net_read("2; 0 1 " + text + "; 0 2 | 1 3"), (2, ((0, 1, ease),), ((0, 2), (1, 3))))

    def test_by_hand(self):
        self.assertEqual(net_read("2; 0 1 2; 0 2 | 1 3"), ONE_ROPE)
        self.assertEqual(net_read(BRIDGE_TEXT), BRIDGE)

    def test_turns_begun_elsewhere(self):
        self.assertEqual(net_read("2; 0 1 2; 2 0 | 3 1"), ONE_ROPE)
        text = "4; 0 2 1, 0 3 2, 2 3 3/2, 2 1 1/3, 3 1 5; 10 0 2 | 9 7 11 | 4 1 6 | 8 3 5"
        self.assertEqual(net_read(text), BRIDGE)

    def test_eases(self):
        self.check_ease("3/2", (3, 2))
        self.check_ease("1/3", (1, 3))
        self.check_ease(LONG, (10 ** 40 - 1, 1))
        self.check_ease("1/" + LONG, (1, 10 ** 40 - 1))

    def test_eases_not_in_lowest_terms(self):
        self.check_ease("6/4", (3, 2))
        self.check_ease("4/2", (2, 1))
        self.check_ease("7/1", (7, 1))
        self.check_ease(LONG + "/" + LONG, (1, 1))
        self.check_ease("3" * 40 + "/" + LONG, (1, 3))


# Numbers that are written otherwise, with one figure too many for places and ends.
WRONG_NUMBERS = (
    "", " ", "+1", "-1", "00", "01", "002", "1000", "0000", "a", "1a", "1.", "1/1", "0x1", "1_0", "~", "1 ", " 1",
    "1e1",
)
WRONG_EASES = (
    "", "+2", "-2", "02", "00", "2/03", "2/00", "2/0", "0/0", "2/", "/2", "/", "2//3", "2/3/4", "2/-3", "2/+3", "-2/3",
    "2.5", "a", "2/a", "1" + "0" * 40, "1/1" + "0" * 40, "2 /3", "2/ 3", "2,3", "~",
)


class RefusedCase(unittest.TestCase):
    def assert_part(self, text, part):
        self.assertEqual(refused(net_read, text), ("NoText", part), text)


class WrittenOtherwise(RefusedCase):
    def test_too_few_or_too_many_parts(self):
        texts = ["", "2", "; ", "2; 0 1 2", "2; 0 1 2;0 2 | 1 3", "2;0 1 2;0 2 | 1 3", "2;0 1 2; 0 2 | 1 3"]
        texts += ["2; 0 1 2; 0 2 | 1 3; ", "; 2; 0 1 2; 0 2 | 1 3", "2; 0 1 2; 0 2; 1 3", "2; ; 0 1 2; 0 2 | 1 3"]
        texts += ["; ; ; ", "x; y", "a; b; c; d", "2 ;0 1 2 ;0 2 | 1 3"]
        for text in texts:
            self.assert_part(text, 3)

    def test_places(self):
        for places in WRONG_NUMBERS + ("2;", ";2", "2,"):
            self.assert_part(places + "; 0 1 2; 0 2 | 1 3", 0)

    def test_places_of_ropes(self):
        for place in WRONG_NUMBERS:
            self.assert_part("2; " + place + " 1 2; 0 2 | 1 3", 1)
            self.assert_part("2; 0 " + place + " 2; 0 2 | 1 3", 1)
            self.assert_part("2; 0 1 2, 0 " + place + " 2; 0 2 4 | 1 3 5", 1)

    def test_eases(self):
        for ease in WRONG_EASES:
            self.assert_part("2; 0 1 " + ease + "; 0 2 | 1 3", 1)
            self.assert_part("2; 0 1 2, 0 1 " + ease + "; 0 2 4 | 1 3 5", 1)

    def test_ropes(self):
        rows = ["", " ", ", ", "0", "0 1", "0 1 2 3", "0  1 2", "0 1  2", " 0 1 2", "0 1 2 ", "0 1 2,", ",0 1 2"]
        rows += ["0 1 2, ", ", 0 1 2", "0 1 2,0 1 2", "0 1 2 , 0 1 2", "0 1 2,  0 1 2", "0 1 2, , 0 1 2", "0,1,2"]
        rows += ["0 1 2 | 0 1 2", "0 1 2;"]
        for row in rows:
            self.assert_part("2; " + row + "; 0 2 | 1 3", 1)

    def test_ends(self):
        for end in WRONG_NUMBERS:
            self.assert_part("2; 0 1 2; " + end + " 2 | 1 3", 2)
            self.assert_part("2; 0 1 2; 0 " + end + " | 1 3", 2)
            self.assert_part("2; 0 1 2; 0 2 | 1 " + end, 2)

    def test_turns(self):
        rows = ["", " ", " | ", "|", "0  2 | 1 3", " 0 2 | 1 3", "0 2 | 1 3 ", "0 2  | 1 3", "0 2 |  1 3", "0 2| 1 3"]
        rows += ["0 2 |1 3", "0 2|1 3", "0 2 | ", " | 1 3", "0 2 |  | 1 3", "0 2 | | 1 3", "0 2 || 1 3", "0 2 | 1 3 |"]
        rows += ["0, 2 | 1, 3", "0 2 | 1 3;", "0 2 , 1 3", "| 0 2 | 1 3"]
        for row in rows:
            self.assert_part("2; 0 1 2; " + row, 2)

    def test_the_first_part_is_told(self):
        good = ("2", "0 1 2", "0 2 | 1 3")
        wrong = ("+2", "0 1 -2", "0 2 |1 3")
        for first in (good[0], wrong[0]):
            for second in (good[1], wrong[1]):
                for third in (good[2], wrong[2]):
                    parts = (first, second, third)
                    faults = [part for part in range(3) if parts[part] == wrong[part]]
                    if faults:
                        self.assert_part("; ".join(parts), faults[0])
                    self.assert_part("; ".join(parts + ("0",)), 3)
                    self.assert_part("; ".join(parts[:2]), 3)

    def test_written_otherwise_comes_ahead_of_no_net(self):
        self.assert_part("99; 0 1 0; 0 2 | 1 03", 2)
        self.assert_part("99; 0 1 2/0; 0 2 | 1 3", 1)
        self.assert_part("0; 7 7 0; ", 2)


class NoNet(RefusedCase):
    def check(self, text, places, ropes, turns):
        told = refused(net_read, text)
        self.assertIsNotNone(told, text)
        self.assertEqual(told, refused(checked, places, ropes, turns), text)
        return told

    def test_as_checked_refuses(self):
        rope = (0, 1, (2, 1))
        turns = ((0, 2), (1, 3))
        for places in (0, 1, 16, 100, 999):
            told = self.check(str(places) + "; 0 1 2; 0 2 | 1 3", places, (rope,), turns)
            self.assertEqual(told, ("NoNet", "places"))
        told = self.check("2; " + ", ".join(["0 1 2"] * 15) + "; 0 2 | 1 3", 2, (rope,) * 15, turns)
        self.assertEqual(told, ("NoNet", "ropes"))
        told = self.check("2; 0 999 2; 0 2 | 1 3", 2, ((0, 999, (2, 1)),), turns)
        self.assertEqual(told, ("NoRope", 0, "place"))
        told = self.check("2; 100 1 2; 0 2 | 1 3", 2, ((100, 1, (2, 1)),), turns)
        self.assertEqual(told, ("NoRope", 0, "place"))
        told = self.check("2; 0 1 2; 0 2 | 1 999", 2, (rope,), ((0, 2), (1, 999)))
        self.assertEqual(told, ("NoTurn", 1))
        told = self.check("2; 0 1 2; 0 2", 2, (rope,), ((0, 2),))
        self.assertEqual(told, ("NoTurn", 1))
        told = self.check("2; 0 1 2; 0 2 | 1 3 | 4", 2, (rope,), turns + ((4,),))
        self.assertEqual(told, ("NoTurn", 2))
        told = self.check("3; 0 1 2; 0 2 | 1 3", 3, (rope,), turns)
        self.assertEqual(told, ("Loose", 2))
        told = self.check("2; 0 1 2, 0 1 2; 0 2 4 | 1 3 5", 2, (rope,) * 2, ((0, 2, 4), (1, 3, 5)))
        self.assertEqual(told, ("NotFlat", 1))

    def test_an_ease_of_nought(self):
        for ease in ("0", "0/1", "0/7", "0/" + LONG):
            told = self.check("2; 0 1 " + ease + "; 0 2 | 1 3", 2, ((0, 1, (0, 1)),), ((0, 2), (1, 3)))
            self.assertEqual(told, ("NoRope", 0, "ease"))

    def test_long_texts(self):
        ropes = ", ".join(["0 1 1"] * 284)
        self.assertEqual(refused(net_read, "2; " + ropes + "; 0"), ("NoNet", "ropes"))
        turns = " | ".join(["0"] * 490)
        self.assertEqual(refused(net_read, "2; 0 1 1; " + turns), ("NoTurn", 0))


SHORT_NUMBER = "(0|[1-9][0-9]{0,2})"
ROPE = SHORT_NUMBER + " " + SHORT_NUMBER + " (0|[1-9][0-9]{0,39})(/[1-9][0-9]{0,39})?"
TURN = SHORT_NUMBER + "( " + SHORT_NUMBER + ")*"
PARTS = (SHORT_NUMBER, ROPE + "(, " + ROPE + ")*", TURN + r"( \| " + TURN + ")*")


def wrong_part(text):
    """The part that point 12 refuses, None where all are well written."""
    parts = text.split("; ")
    if len(parts) != 3:
        return 3
    for number, part in enumerate(parts):
        if not re.fullmatch(PARTS[number], part):
            return number
    return None


def numbers_of(text):
    """What stands in a well written text, handed to the program as it stands there."""
    parts = text.split("; ")
    words = [rope.split(" ") for rope in parts[1].split(", ")]
    ropes = tuple((int(one), int(other), pair(Fraction(ease))) for one, other, ease in words)
    turns = tuple(tuple(int(end) for end in turn.split(" ")) for turn in parts[2].split(" | "))
    return (int(parts[0]), ropes, turns)


class ChangedByChance(unittest.TestCase):
    def check(self, text):
        part = wrong_part(text)
        if part is not None:
            self.assertEqual(refused(net_read, text), ("NoText", part), text)
            return "NoText"
        told = refused(checked, *numbers_of(text))
        self.assertEqual(refused(net_read, text), told, text)
        if told is None:
            self.assertEqual(net_read(text), checked(*numbers_of(text)), text)
        return told[0] if told else None

    def test_every_sign_of_short_texts(self):
        signs = [chr(code) for code in range(32, 127) if chr(code) != "%"]
        found = set()
        for text in ("2; 0 1 2; 0 2 | 1 3", "2; 0 1 12/10; 0 2 | 1 3", "2; 0 1 2, 1 0 3; 0 4 3 | 1 2 5"):
            for at in range(len(text) + 1):
                for sign in signs + [""]:
                    for behind in (text[at:], text[at + 1:]):
                        found.add(self.check(text[:at] + sign + behind))
        self.assertEqual(found, {None, "NoText", "NoNet", "NoRope", "NoTurn", "Loose"})

    def test_pieces_put_together(self):
        source = random.Random(120)
        pieces = "0 1 2 3 4 | ; , / 10 00 - 999 1000".split(" ") + [" ", " ", " | ", "; ", ", ", LONG, LONG + "0"]
        for net in some_nets(source, 6, times=20):
            text = net_text(net)
            for step in range(source.randint(1, 3)):
                at = source.randint(0, len(text))
                text = text[:at] + source.choice(pieces) + text[at + source.randrange(3):]
            self.check(text)


if __name__ == "__main__":
    unittest.main()
