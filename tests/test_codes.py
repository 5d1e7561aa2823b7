"""Points 3, 35 and 36: floors of squares written as rows of sizes, and laid by them."""

import random
import unittest
from fractions import Fraction

from currentfloor.codes import code_of, floor_by
from currentfloor.errors import FloorError, NoCode, NoFloor, NoSize
from currentfloor.floors import laid, turned, without_points
from currentfloor.looks import looked
from currentfloor.squares import brought, is_squares
from helper import (
    UNLIKE,
    UNLIKE_SIZES,
    ease_one,
    floor_of,
    hung_up,
    only_whole,
    refused,
    some_nets,
    some_squares,
    values_of,
)

HALF = Fraction(1, 2)


def expected_code(floor):
    """The widths by the upper sides, falling, of like ones by left, rising."""
    squares = [values_of(rectangle) for rectangle in floor[2]]
    return tuple(int(right - left) for left, low, right, high in sorted(squares, key=lambda one: (-one[3], one[0])))


class Code(unittest.TestCase):
    def test_by_hand(self):
        self.assertEqual(code_of(floor_of(3, 3, (0, 0, 3, 3))), (3,))
        self.assertEqual(code_of(floor_of(2, 1, (0, 0, 1, 1), (1, 0, 2, 1))), (1, 1))
        big, high, low = (0, 0, 2, 2), (2, 1, 3, 2), (2, 0, 3, 1)
        for rows in ((big, high, low), (low, high, big), (high, big, low)):
            self.assertEqual(code_of(floor_of(3, 2, *rows)), (2, 1, 1))
        big, high, low = (1, 0, 3, 2), (0, 1, 1, 2), (0, 0, 1, 1)
        for rows in ((big, high, low), (low, high, big), (high, big, low)):
            self.assertEqual(code_of(floor_of(3, 2, *rows)), (1, 2, 1))
        # A square whose upper side lies lower comes later, though it is further left.
        self.assertEqual(code_of(floor_of(2, 3, (0, 0, 1, 1), (1, 0, 2, 1), (0, 1, 2, 3))), (2, 1, 1))

    def test_unlike(self):
        self.assertEqual(code_of(UNLIKE), UNLIKE_SIZES)
        self.assertEqual(code_of((UNLIKE[0], UNLIKE[1], UNLIKE[2][::-1])), UNLIKE_SIZES)
        self.assertEqual(code_of(turned(turned(UNLIKE))), (9, 10, 14, 8, 1, 7, 4, 18, 15))

    def test_by_chance(self):
        source = random.Random(350)
        for time in range(300):
            width, height, sizes = some_squares(source)
            rows = hung_up(width, height, sizes)
            source.shuffle(rows)
            floor = floor_of(width, height, *rows)
            code = code_of(floor)
            self.assertEqual(code, tuple(sizes))
            self.assertEqual(code, expected_code(floor))
            self.assertTrue(only_whole(code))
            again = floor_by(width, height, code)
            self.assertEqual(set(again[2]), set(floor[2]))
            self.assertEqual(again[:2], floor[:2])
            self.assertEqual(code_of(again), code)
            self.assertEqual(code_of(turned(floor)), expected_code(turned(floor)))

    def test_of_nets(self):
        for net in some_nets(random.Random(351), 14, ease_one):
            floor = brought(without_points(laid(net, (1, 1))))
            again = floor_by(floor[0][0], floor[1][0], code_of(floor))
            self.assertEqual(sorted(again[2]), sorted(floor[2]))

    def test_long_numbers(self):
        far = 10 ** 9 - 1
        self.assertEqual(code_of(floor_of(far, far, (0, 0, far, far))), (far,))
        often = 10 ** 7
        rows = [[often * number for number in values_of(one)] for one in UNLIKE[2]]
        floor = floor_of(33 * often, 32 * often, *rows)
        self.assertEqual(code_of(floor), tuple(often * size for size in UNLIKE_SIZES))


class NoCodes(unittest.TestCase):
    def assert_no_code(self, place, floor):
        self.assertEqual(looked(floor), ("covers",))
        self.assertEqual(refused(code_of, floor), ("NoCode", place))

    def assert_no_floor(self, word, floor):
        self.assertEqual(looked(floor)[0], word)
        self.assertEqual(refused(code_of, floor), ("NoFloor", looked(floor)))

    def test_no_square(self):
        self.assert_no_code(0, floor_of(2, 1, (0, 0, 2, 1)))
        self.assert_no_code(1, floor_of(3, 1, (0, 0, 1, 1), (1, 0, 3, 1)))
        self.assert_no_code(1, floor_of(5, 1, (0, 0, 1, 1), (1, 0, 3, 1), (3, 0, 5, 1)))

    def test_a_point(self):
        self.assert_no_code(1, floor_of(1, 1, (0, 0, 1, 1), (0, 0, 0, 0), (1, 1, 1, 1)))
        self.assert_no_code(0, floor_of(1, 1, (1, 0, 1, 0), (0, 0, 1, 1)))
        self.assert_no_code(1, floor_of(3, 1, (0, 0, 1, 1), (1, 1, 1, 1), (1, 0, 3, 1)))

    def test_numbers_that_are_not_whole(self):
        self.assert_no_code(0, floor_of(HALF, HALF, (0, 0, HALF, HALF)))
        # Squares all of them, but the last two end between whole numbers.
        rows = [(0, 0, 1, 1), (1, 0, 1 + HALF, HALF), (1, HALF, 1 + HALF, 1)]
        self.assert_no_code(1, floor_of(1 + HALF, 1, *rows))
        self.assert_no_code(0, floor_of(1 + HALF, 1, *rows[::-1]))

    def test_squares_of_whole_widths_at_places_between(self):
        # The squares at the right are as wide as a whole number, but do not stand at whole numbers.
        rows = [(HALF, 0, 1 + HALF, 1), (1 + HALF, 0, 2 + HALF, 1), (0, 0, HALF, HALF), (0, HALF, HALF, 1)]
        self.assert_no_code(0, floor_of(2 + HALF, 1, *rows))
        rows = [(0, 0, 1, 1), (0, 1, HALF, 1 + HALF), (HALF, 1, 1, 1 + HALF)]
        self.assert_no_code(1, floor_of(1, 1 + HALF, *rows))
        rows = [(0, HALF, 1, 1 + HALF), (0, 0, HALF, HALF), (HALF, 0, 1, HALF)]
        self.assert_no_code(0, floor_of(1, 1 + HALF, *rows))

    def test_the_first_of_several_kinds(self):
        half_squares = [(1, 0, 1 + HALF, HALF), (1, HALF, 1 + HALF, 1)]
        rest = (1 + HALF, 0, 3, 1)
        whole = (0, 0, 1, 1)
        point = (2, 1, 2, 1)
        self.assert_no_code(1, floor_of(3, 1, whole, rest, *half_squares, point))
        self.assert_no_code(1, floor_of(3, 1, whole, point, *half_squares, rest))
        self.assert_no_code(1, floor_of(3, 1, whole, *half_squares, rest, point))
        self.assert_no_code(0, floor_of(3, 1, point, whole, *half_squares, rest))

    def test_no_floor_ahead(self):
        self.assert_no_floor("gap", floor_of(2, 1, (0, 0, 1, 1)))
        self.assert_no_floor("gap", floor_of(2, 1))
        self.assert_no_floor("gap", floor_of(3, 1, (0, 0, 2, 1)))
        self.assert_no_floor("overlap", floor_of(2, 1, (0, 0, 2, 1), (0, 0, 1, 1)))
        self.assert_no_floor("out", floor_of(2, 1, (HALF, 0, 3, 1)))
        self.assert_no_floor("no", floor_of(2, 1, (0, 0, 2, 1), (1, 0, 1, 1)))

    def test_classes(self):
        with self.assertRaises(NoCode) as caught:
            code_of(floor_of(2, 1, (0, 0, 2, 1)))
        self.assertEqual((caught.exception.place, type(caught.exception).__bases__), (0, (FloorError,)))
        self.assertNotIsInstance(caught.exception, NoFloor)


class LaidBySizes(unittest.TestCase):
    def assert_laid(self, width, height, sizes):
        told = floor_by(width, height, tuple(sizes))
        self.assertEqual(told, floor_of(width, height, *hung_up(width, height, sizes)))
        self.assertTrue(only_whole(told))
        self.assertTrue(is_squares(told))

    def test_by_hand(self):
        self.assertEqual(floor_by(1, 1, (1,)), floor_of(1, 1, (0, 0, 1, 1)))
        self.assertEqual(floor_by(3, 2, (2, 1, 1)), floor_of(3, 2, (0, 0, 2, 2), (2, 1, 3, 2), (2, 0, 3, 1)))
        self.assertEqual(floor_by(3, 2, (1, 2, 1)), floor_of(3, 2, (0, 1, 1, 2), (1, 0, 3, 2), (0, 0, 1, 1)))
        self.assertEqual(floor_by(33, 32, UNLIKE_SIZES), UNLIKE)

    def test_pieces_that_come_to_one_level(self):
        # Below the first four the border is level, so the last square may be as wide as two of them.
        self.assert_laid(2, 3, (1, 1, 2))
        self.assert_laid(4, 4, (2, 1, 1, 1, 1, 2, 2))
        self.assert_laid(3, 4, (1, 1, 1, 3))
        self.assert_laid(4, 6, (1, 2, 1, 1, 1, 4))

    def test_by_chance(self):
        source = random.Random(360)
        for time in range(300):
            width, height, sizes = some_squares(source)
            self.assert_laid(width, height, sizes)

    def test_thirty(self):
        self.assert_laid(30, 1, [1] * 30)
        self.assert_laid(1, 30, [1] * 30)
        self.assert_laid(15, 2, [1] * 30)

    def test_several_figures(self):
        far = 10 ** 9 - 1
        self.assertEqual(floor_by(far, far, (far,)), floor_of(far, far, (0, 0, far, far)))
        half = far // 3
        self.assertEqual(floor_by(far, half, (half,) * 3)[2][2], floor_of(1, 1, (2 * half, 0, far, half))[2][0])
        wide = floor_by(33 * 10 ** 7, 32 * 10 ** 7, tuple(10 ** 7 * size for size in UNLIKE_SIZES))
        self.assertEqual(brought(wide), UNLIKE)
        self.assertEqual(refused(floor_by, far, far, (far - 1,)), ("NoSize", 1))
        self.assertEqual(refused(floor_by, far, far, (far + 1,)), ("NoSize", 0))


class NoSizes(unittest.TestCase):
    def assert_refused(self, at, width, height, *sizes):
        self.assertEqual(refused(floor_by, width, height, sizes), ("NoSize", at))
        self.assertEqual(hung_up(width, height, sizes), ("NoSize", at))

    def test_nought_and_below(self):
        for size in (0, -1, -2, -10 ** 9):
            self.assert_refused(0, 3, 2, size)
            self.assert_refused(1, 3, 2, 2, size)
            self.assert_refused(0, 3, 2, size, size)

    def test_too_wide(self):
        self.assert_refused(0, 2, 3, 3)
        self.assert_refused(1, 3, 3, 2, 2)
        self.assert_refused(0, 2, 9, 10 ** 9)
        # At the left of the higher piece there is room, but not to the next piece, which lies lower.
        self.assert_refused(3, 4, 4, 1, 2, 1, 2)

    def test_too_deep(self):
        self.assert_refused(0, 3, 2, 3)
        self.assert_refused(1, 4, 3, 3, 4)
        self.assert_refused(2, 2, 3, 1, 1, 3)
        self.assert_refused(1, 2, 3, 2, 2)

    def test_too_many(self):
        self.assert_refused(1, 1, 1, 1, 1)
        self.assert_refused(3, 3, 2, 2, 1, 1, 1)
        self.assert_refused(3, 3, 2, 2, 1, 1, 5, 0)
        self.assert_refused(1, 1, 1, 1, 0)
        self.assert_refused(1, 1, 1, 1, -1)
        self.assert_refused(9, 33, 32, *UNLIKE_SIZES, 1)

    def test_too_few(self):
        self.assert_refused(0, 1, 1)
        self.assert_refused(0, 9, 9)
        self.assert_refused(1, 3, 2, 2)
        self.assert_refused(2, 3, 2, 2, 1)
        self.assert_refused(8, 33, 32, *UNLIKE_SIZES[:8])

    def test_the_first(self):
        self.assert_refused(1, 3, 3, 1, 9, 9)
        self.assert_refused(1, 3, 3, 1, 0, 9)

    def test_by_chance(self):
        source = random.Random(361)
        found = set()
        for time in range(3000):
            width, height = source.randint(1, 5), source.randint(1, 5)
            sizes = tuple(source.choice((-1, 0, 1, 1, 1, 1, 2, 2, 2, 3, 3, 4)) for size in range(source.randint(0, 8)))
            told = hung_up(width, height, sizes)
            if isinstance(told, tuple):
                self.assertEqual(refused(floor_by, width, height, sizes), told)
            else:
                self.assertEqual(floor_by(width, height, sizes), floor_of(width, height, *told))
            found.add(isinstance(told, tuple))
        self.assertEqual(found, {True, False})

    def test_changed_rows(self):
        """Rows that lay a floor, one size of them changed, left out or put in."""
        source = random.Random(362)
        for time in range(500):
            width, height, sizes = some_squares(source, 20)
            at = source.randrange(len(sizes))
            ways = ([], [sizes[at] + 1] + sizes[at + 1:], [1] + sizes[at:], sizes[at + 1:])
            changed = sizes[:at] + source.choice(ways)
            told = hung_up(width, height, changed)
            if isinstance(told, tuple):
                self.assertEqual(refused(floor_by, width, height, tuple(changed)), told)
            else:
                self.assertEqual(floor_by(width, height, tuple(changed)), floor_of(width, height, *told))

    def test_class(self):
        with self.assertRaises(NoSize) as caught:
            floor_by(2, 1, (1,))
        self.assertEqual((caught.exception.at, type(caught.exception).__bases__), (1, (FloorError,)))


if __name__ == "__main__":
    unittest.main()
