"""Points 3 and 37: all rows of sizes for small sides."""

import itertools
import unittest

from currentfloor.books import all_codes, fewest
from currentfloor.codes import code_of, floor_by
from currentfloor.floors import turned
from helper import floor_of, hung_up, only_whole, refused

SIDES = list(itertools.product(range(1, 6), repeat=2))


def rows_tried(width, height, most):
    """All rows of at most so many sizes that lay a floor, each tried by itself."""
    sizes = range(1, min(width, height) + 1)
    rows = itertools.chain(*[itertools.product(sizes, repeat=count) for count in range(most + 1)])
    return tuple(sorted(row for row in rows if isinstance(hung_up(width, height, row), list)))


class Book(unittest.TestCase):
    def test_by_hand(self):
        self.assertEqual(all_codes(1, 1, 7), ((1,),))
        self.assertEqual(all_codes(1, 1, 1), ((1,),))
        self.assertEqual(all_codes(2, 2, 7), ((1, 1, 1, 1), (2,)))
        self.assertEqual(all_codes(2, 2, 3), ((2,),))
        self.assertEqual(all_codes(3, 2, 7), ((1, 1, 1, 1, 1, 1), (1, 2, 1), (2, 1, 1)))
        self.assertEqual(all_codes(2, 3, 7), ((1, 1, 1, 1, 1, 1), (1, 1, 2), (2, 1, 1)))
        self.assertEqual(all_codes(5, 1, 5), ((1, 1, 1, 1, 1),))
        self.assertEqual(all_codes(5, 1, 4), ())

    def test_no_squares(self):
        for width, height in SIDES:
            self.assertEqual(all_codes(width, height, 0), ())

    def test_against_all_rows(self):
        for width, height in SIDES:
            rows = rows_tried(width, height, 7)
            for most in range(8):
                told = all_codes(width, height, most)
                self.assertEqual(told, tuple(row for row in rows if len(row) <= most))

    def test_sorted_each_once(self):
        for width, height in SIDES:
            for most in range(8):
                told = all_codes(width, height, most)
                self.assertEqual(list(told), sorted(set(told)))
                self.assertTrue(only_whole(told))
                self.assertTrue(all(len(row) <= most for row in told))

    def test_each_lays_a_floor(self):
        for width, height in SIDES:
            for row in all_codes(width, height, 7):
                floor = floor_by(width, height, row)
                self.assertEqual(floor, floor_of(width, height, *hung_up(width, height, row)))
                self.assertEqual(code_of(floor), row)

    def test_sides_exchanged(self):
        """Turned by a quarter, the floors of one book are those of the other."""
        for width, height in SIDES:
            for most in range(8):
                codes = [code_of(turned(floor_by(width, height, row))) for row in all_codes(width, height, most)]
                self.assertEqual(tuple(sorted(codes)), all_codes(height, width, most))


class Fewest(unittest.TestCase):
    def test_by_hand(self):
        table = [[1, 2, 3, 4, 5], [2, 1, 3, 2, 4], [3, 3, 1, 4, 4], [4, 2, 4, 1, 5], [5, 4, 4, 5, 1]]
        self.assertEqual([[fewest(width, height) for height in range(1, 6)] for width in range(1, 6)], table)

    def test_by_the_books(self):
        for width, height in SIDES:
            least = fewest(width, height)
            self.assertIs(type(least), int)
            self.assertEqual(all_codes(width, height, least - 1), ())
            self.assertNotEqual(all_codes(width, height, least), ())
            self.assertEqual(fewest(height, width), least)


class Refused(unittest.TestCase):
    def test_each_number_beyond(self):
        for beyond in (0, 6, -1, 7, 100, -10 ** 9, 10 ** 9):
            for good in range(1, 6):
                self.assertEqual(refused(all_codes, beyond, good, 3), ("TooMany",))
                self.assertEqual(refused(all_codes, good, beyond, 3), ("TooMany",))
                self.assertEqual(refused(fewest, beyond, good), ("TooMany",))
                self.assertEqual(refused(fewest, good, beyond), ("TooMany",))
            self.assertEqual(refused(fewest, beyond, beyond), ("TooMany",))
        for beyond in (-1, 8, 9, -10 ** 9, 10 ** 9):
            for width, height in SIDES:
                self.assertEqual(refused(all_codes, width, height, beyond), ("TooMany",))

    def test_all_others_are_told(self):
        for width, height in SIDES:
            self.assertIsNone(refused(fewest, width, height))
            for most in range(8):
                self.assertIsNone(refused(all_codes, width, height, most))


if __name__ == "__main__":
    unittest.main()
