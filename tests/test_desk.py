"""Points 38 and 39: the desk and its lines."""

import random
import unittest

from currentfloor.back import net_of
from currentfloor.codes import floor_by
from currentfloor.desk import Desk
from currentfloor.errors import NoLine, NoName
from currentfloor.floors import laid, without_points
from currentfloor.fractions import written
from currentfloor.heights import ease_of
from currentfloor.nets import checked, eased, taken_out
from currentfloor.other import other_net
from currentfloor.settle import settled
from currentfloor.squares import brought
from currentfloor.texts import net_text
from currentfloor.trees import tree_sum
from helper import BRIDGE, UNLIKE_SIZES, begun_elsewhere, ease_one, long_ease, refused, some_nets, some_squares

ROPE = "2; 0 1 2; 0 2 | 1 3"
CHAIN = "3; 0 2 1, 2 1 3/2; 0 4 | 3 5 | 1 2"
BRIDGE_TEXT = "4; 0 2 1, 0 3 2, 2 3 3/2, 2 1 1/3, 3 1 5; 0 2 10 | 7 11 9 | 1 6 4 | 3 5 8"
UNLIKE_LINE = "33 32 18 15 7 8 14 4 10 1 9"
# Of the lines that have a name and no more.
WORDS = ("other", "show", "drop", "ease", "trees", "floor", "settle")


def floor_line(net):
    """The answer to `floor`, by the words of point 38."""
    width, height, rectangles = brought(laid(net, (7, 3)))
    rows = [" ".join(str(number[0]) for number in rectangle) for rectangle in rectangles]
    return f"{width[0]} {height[0]}: {'; '.join(rows)}"


def state(desk):
    """All that the desk keeps, asked by its lines."""
    names = desk.tell("names")
    return {name: desk.tell("show " + name) for name in names.split(" ")} if names != "none" else {}


def desk_with(**texts):
    desk = Desk()
    for name, text in texts.items():
        desk.tell(f"net {name} {text}")
    return desk


class DeskCase(unittest.TestCase):
    def assert_answers(self, desk, *rows):
        for line, answer in rows:
            self.assertEqual(desk.tell(line), answer, line)

    def assert_refused(self, desk, line, *refusal):
        """The line is refused so, and changes nothing."""
        before = state(desk)
        self.assertEqual(refused(desk.tell, line), refusal, line)
        self.assertEqual(state(desk), before, line)


class ByHand(DeskCase):
    def test_one_rope(self):
        self.assert_answers(
            Desk(),
            ("names", "none"),
            ("net a 2; 0 1 4/2; 2 0 | 3 1", "kept"),
            ("names", "a"),
            ("show a", ROPE),
            ("ease a", "2"),
            ("trees a", "2"),
            ("floor a", "2 1: 0 0 2 1"),
            ("settle a", "1"),
            ("other a", "kept"),
            ("show a", "2; 0 1 1/2; 0 2 | 1 3"),
            ("ease a", "1/2"),
            ("floor a", "1 2: 0 0 1 2"),
            ("set a 0 6/4", "3/2"),
            ("show a", "2; 0 1 3/2; 0 2 | 1 3"),
            ("drop a", "dropped"),
            ("names", "none"),
        )

    def test_chain(self):
        self.assert_answers(
            desk_with(chain=CHAIN),
            ("show chain", CHAIN),
            ("ease chain", "3/5"),
            ("trees chain", "3/2"),
            ("floor chain", "3 5: 0 2 3 5; 0 0 3 2"),
            ("settle chain", "1"),
            ("set chain 0 3", "1"),
            ("trees chain", "9/2"),
            ("other chain", "kept"),
            ("show chain", "2; 0 1 1/3, 0 1 2/3; 0 2 4 | 1 5 3"),
            ("out chain 1", "1/3"),
            ("show chain", "2; 0 1 1/3; 0 2 | 1 3"),
        )

    def test_bridge(self):
        self.assert_answers(
            desk_with(b=BRIDGE_TEXT),
            ("ease b", "238/131"),
            ("floor b", "238 131: 0 69 62 131; 62 43 238 131; 23 43 62 69; 0 0 23 69; 23 0 238 43"),
            ("settle b", "5"),
            ("out b 2", "47/28"),
            ("settle b", "1"),
        )

    def test_points_stand_in_the_floor(self):
        # A bridge in which nothing runs: its rope is a point, which the floor tells, and settle leaves out.
        even = "4; 0 2 1, 0 3 1, 2 3 1, 2 1 1, 3 1 1; 0 2 10 | 7 11 9 | 1 6 4 | 3 5 8"
        self.assert_answers(
            desk_with(even=even),
            ("floor even", "2 2: 0 1 1 2; 1 1 2 2; 1 1 1 1; 0 0 1 1; 1 0 2 1"),
            ("settle even", "1"),
            ("trees even", "8"),
        )

    def test_sizes(self):
        self.assert_answers(
            Desk(),
            ("sizes s 33 32 18 15 7 8 14 4 10 1 9", "kept"),
            ("floor s", "33 32: 0 14 18 32; 18 17 33 32; 18 10 25 17; 25 9 33 17; 0 0 14 14; 14 10 18 14; 14 0 24 10; "
                "24 9 25 10; 24 0 33 9"),
            ("ease s", "33/32"),
            ("trees s", "66"),
            ("settle s", "9"),
            ("sizes s 3 2 2 1 1", "kept"),
            ("show s", "3; 0 1 1, 0 2 1, 2 1 1; 0 2 6 | 1 7 5 | 3 4"),
            ("floor s", "3 2: 0 0 2 2; 2 1 3 2; 2 0 3 1"),
            ("sizes t 999 999 999", "kept"),
            ("show t", "2; 0 1 1; 0 2 | 1 3"),
            ("names", "s t"),
        )


class Names(DeskCase):
    def test_rising(self):
        desk = Desk()
        for name in ("b", "ab", "abcdefgh", "zz", "a", "z", "ba"):
            desk.tell(f"net {name} {ROPE}")
        self.assertEqual(desk.tell("names"), "a ab abcdefgh b ba z zz")
        desk.tell("drop b")
        self.assertEqual(desk.tell("names"), "a ab abcdefgh ba z zz")
        desk.tell("sizes b 1 1 1")
        self.assertEqual(desk.tell("names"), "a ab abcdefgh b ba z zz")

    def test_words_of_lines_as_names(self):
        desk = Desk()
        names = ["net", "sizes", "names", "set", "out", "none", *WORDS]
        for name in names:
            self.assertEqual(desk.tell(f"net {name} {ROPE}"), "kept")
        self.assertEqual(desk.tell("names"), " ".join(sorted(names)))
        self.assertEqual(desk.tell("show names"), ROPE)
        self.assertEqual(desk.tell("set set 0 3"), "3")
        self.assertEqual(desk.tell("drop drop"), "dropped")

    def test_all_letters(self):
        desk = Desk()
        for letter in "abcdefghijklmnopqrstuvwxyz":
            self.assertEqual(desk.tell(f"net {letter} {ROPE}"), "kept")
        self.assertEqual(desk.tell("names"), " ".join("abcdefghijklmnopqrstuvwxyz"))

    def test_in_the_place_of_another(self):
        desk = desk_with(a=ROPE, b=CHAIN)
        self.assert_answers(desk, (f"net a {BRIDGE_TEXT}", "kept"), ("show a", BRIDGE_TEXT), ("names", "a b"))
        self.assert_answers(desk, ("sizes a 1 1 1", "kept"), ("show a", "2; 0 1 1; 0 2 | 1 3"), ("names", "a b"))
        self.assertEqual(desk.tell("show b"), CHAIN)

    def test_several_desks(self):
        one, other = Desk(), Desk()
        one.tell(f"net a {ROPE}")
        self.assertEqual(other.tell("names"), "none")
        other.tell(f"net a {CHAIN}")
        other.tell(f"net b {CHAIN}")
        self.assert_answers(one, ("show a", ROPE), ("names", "a"))
        self.assert_answers(other, ("show a", CHAIN), ("names", "a b"))
        self.assertEqual(one.tell("drop a"), "dropped")
        self.assert_answers(other, ("show a", CHAIN), ("names", "a b"))
        self.assert_refused(one, "show a", "NoName", "a")
        self.assertEqual(Desk().tell("names"), "none")

    def test_other_nets_stay(self):
        desk = desk_with(a=CHAIN, b=CHAIN, c=CHAIN)
        for line in ("other b", "set b 0 7", "out b 1", "drop b", "sizes b 2 1 1 1"):
            desk.tell(line)
            self.assert_answers(desk, ("show a", CHAIN), ("show c", CHAIN))


class ByChance(DeskCase):
    def test_answers(self):
        source = random.Random(380)
        nets = some_nets(source, 14) + some_nets(source, 14, ease_one)[::2] + some_nets(source, 14, long_ease)[::6]
        for net in nets:
            net = checked(*net)
            desk = Desk()
            begun = (net[0], net[1], begun_elsewhere(net[2], source))
            self.assert_answers(
                desk,
                ("net a " + net_text(begun), "kept"),
                ("show a", net_text(net)),
                ("ease a", written(ease_of(net))),
                ("trees a", written(tree_sum(net))),
                ("floor a", floor_line(net)),
                ("settle a", str(len(settled(without_points(laid(net, (1, 1))))[1][2]))),
            )
            self.check_changes(source, net, desk)

    def check_changes(self, source, net, desk):
        rope = source.randrange(len(net[1]))
        easier = eased(net, rope, (9, 7))
        self.assert_answers(desk, (f"set a {rope} 18/14", written(ease_of(easier))), ("show a", net_text(easier)))
        self.assert_answers(desk, ("other a", "kept"), ("show a", net_text(other_net(easier))))
        self.assert_answers(desk, ("other a", "kept"), ("floor a", floor_line(other_net(other_net(easier)))))
        back = other_net(other_net(easier))
        refusal = refused(taken_out, back, rope)
        if refusal is None:
            without = taken_out(back, rope)
            self.assert_answers(desk, (f"out a {rope}", written(ease_of(without))), ("show a", net_text(without)))
        else:
            self.assert_refused(desk, f"out a {rope}", *refusal)
            self.assertEqual(refusal[0], "Loose")

    def test_sizes(self):
        source = random.Random(381)
        for time in range(150):
            width, height, sizes = some_squares(source)
            line = " ".join(str(number) for number in [width, height, *sizes])
            desk = desk_with(a=ROPE)
            if len(sizes) > 14:
                self.assert_refused(desk, "sizes a " + line, "TooMany")
            else:
                floor = floor_by(width, height, tuple(sizes))
                self.assert_answers(desk, ("sizes a " + line, "kept"), ("show a", net_text(net_of(floor))))
                self.assertEqual(desk.tell("floor a"), floor_line(net_of(floor)))


class NoLines(DeskCase):
    def assert_no_line(self, *lines):
        desk = desk_with(a=CHAIN, b=ROPE)
        for line in lines:
            self.assert_refused(desk, line, "NoLine")
            # A name that is none, or by which no net stands, is met later.
            for name in ("BAD", "bad", "abcdefghi"):
                self.assert_refused(desk, line.replace(" a", " " + name, 1), "NoLine")

    def test_no_words(self):
        self.assert_no_line("", " ", "  ", "   ")

    def test_misspelt(self):
        for word in WORDS + ("net", "sizes", "names", "set", "out"):
            for wrong in (word.upper(), word.title(), word[:-1], word + "s", word + ":", "-" + word, word[::-1]):
                self.assert_no_line(wrong, wrong + " a", wrong + " a 1", wrong + " a 1 1", wrong + " a 1 1 1")
        self.assert_no_line("a", "a a", "hello", "NONE", "none", "kept", "?", "help")

    def test_too_few(self):
        self.assert_no_line("net", "net a", "sizes", "sizes a", "sizes a 1", "sizes a 1 1")
        self.assert_no_line("set", "set a", "set a 0", "out", "out a")
        self.assert_no_line(*WORDS)

    def test_too_many(self):
        self.assert_no_line("names a", "names names", "set a 0 1 1", "out a 0 0", "set a 0 1 a")
        self.assert_no_line(*[word + " a a" for word in WORDS])
        self.assert_no_line(*[word + " a b c" for word in WORDS])

    def test_blanks(self):
        lines = [word + " a" for word in WORDS] + ["set a 0 1", "out a 0", "sizes a 1 1 1"]
        for line in lines + ["names", f"net a {ROPE}"]:
            self.assert_no_line(" " + line, "  " + line)
        for line in lines + ["names"]:
            self.assert_no_line(line + " ", line + "  ")
        for line in lines + [f"net a {ROPE}"]:
            self.assert_no_line(line.replace(" ", "  ", 1))
        self.assert_no_line("set a  0 1", "set a 0  1", "out a  0", "sizes a  1 1 1", "sizes a 1  1 1")
        self.assert_no_line("sizes a 1 1  1", "sizes a 1 1 ", "sizes a 1 ", "set a 0 ", "out a ", "set a ")
        self.assert_no_line("net ", "net  ", "show ", "sizes  1 1 1", "set  0 1", "out  0")

    def test_numbers_of_ropes(self):
        for number in ("00", "01", "+1", "-1", "1000", "0000", "x", "1.", "0x1", "1/1", "1_0", "a", "1e1", "~"):
            self.assert_no_line(f"out a {number}", f"set a {number} 1")

    def test_eases(self):
        for ease in ("1/0", "01", "1/01", "00", "1/2/3", "/2", "1/", "/", "-1", "+1", "1.5", "x", "1//2", "1/-2"):
            self.assert_no_line(f"set a 0 {ease}")
        self.assert_no_line("set a 0 1" + "0" * 40, "set a 0 1/1" + "0" * 40, "set a 0 1/ 2", "set a 0 0/0")

    def test_sides(self):
        for number in ("0", "00", "01", "007", "1000", "-1", "+1", "x", "1/1", "1.", "1_0", "0x1"):
            self.assert_no_line(f"sizes a {number} 1 1", f"sizes a 1 {number} 1", f"sizes a 1 1 {number}")
            self.assert_no_line(f"sizes a 2 1 1 {number}", f"sizes a 2 1 {number} 1", f"sizes a 1 1 1 1 {number}")

    def test_thirty_one_sizes(self):
        desk = desk_with(a=ROPE)
        self.assert_refused(desk, "sizes a 1 31" + " 1" * 31, "NoLine")
        self.assert_refused(desk, "sizes a 1 30" + " 1" * 31, "NoLine")
        self.assert_refused(desk, "sizes BAD 1 31" + " 1" * 31, "NoLine")
        self.assert_refused(desk, "sizes a 1 9" + " 1" * 60, "NoLine")
        self.assert_refused(desk, "sizes a 1 30" + " 1" * 30, "TooMany")

    def test_longest_written(self):
        desk = desk_with(a=ROPE)
        top = "9" * 40
        self.assert_answers(desk, (f"set a 0 {top}/1", top), (f"set a 0 1/{top}", f"1/{top}"))
        self.assert_answers(desk, (f"set a 0 {top}/{top}", "1"))


class NoNames(DeskCase):
    WRONG = ("BAD", "A", "a1", "1", "0", "a-b", "a_b", "abcdefghi", "aB", "a;", "~", "!", "a.b", "a" * 100, "a|")

    def lines(self, name):
        return [f"{word} {name}" for word in WORDS] + [f"set {name} 0 1", f"out {name} 0", f"set {name} 999 0/9"]

    def test_names_that_are_none(self):
        desk = desk_with(a=CHAIN)
        for name in self.WRONG:
            for line in self.lines(name) + [f"net {name} {ROPE}", f"sizes {name} 1 1 1"]:
                self.assert_refused(desk, line, "NoName", name)

    def test_names_by_which_no_net_stands(self):
        desk = desk_with(a=CHAIN)
        for name in ("b", "aa", "bad", "abcdefgh", "names"):
            for line in self.lines(name):
                self.assert_refused(desk, line, "NoName", name)
            self.assertEqual(Desk().tell("names"), "none")
        self.assertEqual(refused(Desk().tell, "show a"), ("NoName", "a"))

    def test_none_stands_any_more(self):
        desk = desk_with(a=CHAIN, b=ROPE)
        desk.tell("drop a")
        for line in self.lines("a"):
            self.assert_refused(desk, line, "NoName", "a")
        self.assert_answers(desk, (f"net a {ROPE}", "kept"), ("show a", ROPE))

    def test_ahead_of_what_is_done(self):
        desk = desk_with(a=CHAIN)
        lines = ("net BAD nothing", "net BAD ", "net BAD 1; 0 1 1; 0", "sizes BAD 1 1 2", "sizes BAD 1 30" + " 1" * 30)
        for line in lines:
            self.assert_refused(desk, line, "NoName", "BAD")
        self.assert_refused(desk, "set b 9 0", "NoName", "b")

    def test_no_text_of_a_net_is_a_name(self):
        # Where the text is left out the line has too few words, whatever stands for the name.
        desk = desk_with(a=CHAIN)
        self.assert_refused(desk, "net BAD", "NoLine")
        self.assert_refused(desk, "net a", "NoLine")
        self.assert_refused(desk, f"net  {ROPE}", "NoLine")
        self.assert_refused(desk, f"net  a {ROPE}", "NoLine")
        # Without a name the first word of the text stands in its place.
        self.assert_refused(desk, f"net {ROPE}", "NoName", "2;")

    def test_class(self):
        with self.assertRaises(NoName) as caught:
            Desk().tell("show a")
        self.assertNotIsInstance(caught.exception, NoLine)


class WhatIsDone(DeskCase):
    def test_texts(self):
        desk = desk_with(a=CHAIN, b=ROPE)
        rows = [
            ("", 3), (" ", 3), ("show b", 3), ("net b " + ROPE, 0), ("names", 3), (" " + ROPE, 0), (ROPE + " ", 2),
            ("2;  0 1 2; 0 2 | 1 3", 1), ("2; 0 1 2;  0 2 | 1 3", 2), ("2; 0 1 2; 0 2 |  1 3", 2), (ROPE + "; ", 3),
            ("x; 0 1 2; 0 2 | 1 3", 0), ("2; 0 1; 0 2 | 1 3", 1), ("2; 0 1 2; x", 2), ("; ; ", 0), ("2; ; ", 1),
            ("set b 0 1", 3), ("   ", 3), ("; ", 3),
        ]
        for text, part in rows:
            self.assert_refused(desk, "net a " + text, "NoText", part)
            self.assert_refused(desk, "net c " + text, "NoText", part)

    def test_nets(self):
        desk = desk_with(a=CHAIN, b=ROPE)
        rows = [
            ("1; 0 1 2; 0 2 | 1 3", "NoNet", "places"),
            ("2; 0 2 2; 0 2 | 1 3", "NoRope", 0, "place"),
            ("2; 0 1 0; 0 2 | 1 3", "NoRope", 0, "ease"),
            ("2; 0 1 2; 0 1 | 2 3", "NoTurn", 0),
            ("3; 0 1 2, 2 2 1; 0 4 | 1 5 | 2 3", "Loose", 2),
            ("2; 0 1 1, 0 1 1, 0 1 1; 0 2 4 6 | 1 3 5 7", "NotFlat", 2),
        ]
        for text, *refusal in rows:
            self.assert_refused(desk, "net a " + text, *refusal)
            self.assert_refused(desk, "net c " + text, *refusal)
        ropes = ", ".join(["0 1 1"] * 15)
        self.assert_refused(desk, f"net a 2; {ropes}; 0 | 1", "NoNet", "ropes")

    def test_ropes_and_eases(self):
        desk = desk_with(a=CHAIN, b=ROPE)
        for number in (2, 3, 9, 999):
            self.assert_refused(desk, f"set a {number} 1", "NoRope", number, "number")
            self.assert_refused(desk, f"set a {number} 0", "NoRope", number, "number")
            self.assert_refused(desk, f"out a {number}", "NoRope", number, "number")
        for ease in ("0", "0/1", "0/7", "0/" + "9" * 40):
            self.assert_refused(desk, f"set a 1 {ease}", "NoRope", 1, "ease")

    def test_loose(self):
        desk = desk_with(a=CHAIN, b=ROPE)
        self.assert_refused(desk, "out b 0", "Loose", 1)
        self.assert_refused(desk, "out a 0", "Loose", 1)
        self.assert_refused(desk, "out a 1", "Loose", 1)
        hanging = "3; 0 1 1, 0 2 1; 0 4 2 | 1 5 | 3"
        self.assertEqual(desk.tell("net c " + hanging), "kept")
        self.assert_refused(desk, "out c 1", "Loose", 2)

    def test_sizes(self):
        desk = desk_with(a=CHAIN, b=ROPE)
        for name in ("a", "c"):
            self.assert_refused(desk, f"sizes {name} 1 1 2", "NoSize", 0)
            self.assert_refused(desk, f"sizes {name} 2 1 1", "NoSize", 1)
            self.assert_refused(desk, f"sizes {name} 1 1 1 1", "NoSize", 1)
            self.assert_refused(desk, f"sizes {name} {UNLIKE_LINE} 1", "NoSize", len(UNLIKE_SIZES))
            self.assert_refused(desk, f"sizes {name} 999 998 999", "NoSize", 0)

    def test_too_many(self):
        desk = desk_with(a=CHAIN)
        self.assert_refused(desk, "sizes a 15 1" + " 1" * 15, "TooMany")
        self.assert_refused(desk, "sizes b 15 1" + " 1" * 15, "TooMany")
        # That the sizes do not fit is met ahead of that.
        self.assert_refused(desk, "sizes a 16 1" + " 1" * 15, "NoSize", 15)
        self.assertEqual(desk.tell("sizes a 14 1" + " 1" * 14), "kept")
        self.assertEqual(desk.tell("ease a"), "14")
        self.assertEqual(desk.tell("sizes a 1 14" + " 1" * 14), "kept")
        self.assertEqual(desk.tell("show a")[:3], "15;")

    def test_refused_lines_among_others(self):
        desk = desk_with(a=CHAIN)
        self.assert_refused(desk, "out a 0", "Loose", 1)
        self.assert_answers(desk, ("ease a", "3/5"), ("set a 0 3", "1"))
        self.assert_refused(desk, "set a 0 0", "NoRope", 0, "ease")
        self.assert_answers(desk, ("ease a", "1"), ("names", "a"))

    def test_longest_text(self):
        net = some_nets(random.Random(382), 14, long_ease)[-1]
        text = net_text(net)
        self.assertGreater(len(text), 1000)
        desk = desk_with(abcdefgh=text)
        self.assertEqual(desk.tell("show abcdefgh"), text)
        self.assertEqual(desk.tell("floor abcdefgh"), floor_line(net))

    def test_bridge_is_the_helpers(self):
        self.assertEqual(net_text(BRIDGE), BRIDGE_TEXT)


if __name__ == "__main__":
    unittest.main()
