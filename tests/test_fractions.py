"""Points 2 and 4: fractions, held against Python's own."""

import operator
import random
import unittest
from fractions import Fraction
from math import gcd

from currentfloor.errors import FloorError, NoNumber
from currentfloor.fractions import fraction, less, minus, over, plus, times, written

LARGEST = 10 ** 300 - 1
SMALL = range(-12, 13)


def large_numbers():
    source = random.Random(4)
    numbers = [LARGEST, -LARGEST, 10 ** 299, -(10 ** 299), 2 ** 990, 3 ** 600, 6 ** 380]
    numbers += [source.randrange(-LARGEST, LARGEST) for number in range(8)]
    return numbers


def pair(value):
    return (value.numerator, value.denominator)


def sample():
    values = {Fraction(top, bottom) for top in range(-5, 6) for bottom in range(1, 6)}
    large = large_numbers()
    values |= {Fraction(top, bottom) for top, bottom in zip(large, large[1:] + large[:1])}
    values |= {Fraction(LARGEST), Fraction(1, LARGEST), Fraction(-1, LARGEST)}
    return sorted(values)


class FractionCase(unittest.TestCase):
    def assert_fraction(self, told):
        self.assertIs(type(told), tuple)
        self.assertEqual(len(told), 2)
        self.assertIs(type(told[0]), int)
        self.assertIs(type(told[1]), int)
        self.assertGreaterEqual(told[1], 1)
        self.assertEqual(gcd(told[0], told[1]), 1)


class Made(FractionCase):
    def check(self, top, bottom):
        told = fraction(top, bottom)
        self.assert_fraction(told)
        self.assertEqual(told, pair(Fraction(top, bottom)))

    def test_the_document_s_own(self):
        self.assertEqual(fraction(6, -4), (-3, 2))

    def test_signs(self):
        self.assertEqual(fraction(6, 4), (3, 2))
        self.assertEqual(fraction(-6, 4), (-3, 2))
        self.assertEqual(fraction(-6, -4), (3, 2))

    def test_nought(self):
        for bottom in (1, -1, 5, -5, LARGEST, -LARGEST):
            self.assertEqual(fraction(0, bottom), (0, 1))

    def test_small_ones(self):
        for top in SMALL:
            for bottom in SMALL:
                if bottom != 0:
                    self.check(top, bottom)

    def test_large_ones(self):
        for top in large_numbers():
            for bottom in large_numbers():
                self.check(top, bottom)

    def test_small_above_large_and_large_above_small(self):
        for large in large_numbers():
            for small in SMALL:
                self.check(small, large)
                if small != 0:
                    self.check(large, small)

    def test_large_common_factor(self):
        part = 10 ** 150 + 67
        self.assertEqual(fraction(-6 * part, 4 * part), (-3, 2))
        self.assertEqual(fraction(part, -part), (-1, 1))

    def test_no_bottom_0(self):
        for top in (-LARGEST, -1, 0, 1, LARGEST):
            with self.assertRaises(NoNumber) as caught:
                fraction(top, 0)
            self.assertIsInstance(caught.exception, FloorError)


class Reckoned(FractionCase):
    def check_all(self, function, oracle, others):
        for one in sample():
            for other in others:
                told = function(pair(one), pair(other))
                self.assert_fraction(told)
                self.assertEqual(told, pair(oracle(one, other)))

    def test_plus(self):
        self.assertEqual(plus((1, 6), (1, 3)), (1, 2))
        self.assertEqual(plus((-3, 2), (3, 2)), (0, 1))
        self.check_all(plus, operator.add, sample())

    def test_minus(self):
        self.assertEqual(minus((1, 6), (1, 3)), (-1, 6))
        self.assertEqual(minus((3, 2), (3, 2)), (0, 1))
        self.check_all(minus, operator.sub, sample())

    def test_times(self):
        self.assertEqual(times((-3, 2), (2, 3)), (-1, 1))
        self.assertEqual(times((0, 1), (-2, 3)), (0, 1))
        self.check_all(times, operator.mul, sample())

    def test_over(self):
        self.assertEqual(over((1, 2), (-3, 4)), (-2, 3))
        self.assertEqual(over((0, 1), (-3, 4)), (0, 1))
        self.check_all(over, operator.truediv, [other for other in sample() if other != 0])

    def test_not_over_nought(self):
        for one in sample():
            with self.assertRaises(NoNumber):
                over(pair(one), (0, 1))

    def test_less(self):
        self.assertIs(less((1, 3), (1, 2)), True)
        self.assertIs(less((-1, 3), (-1, 2)), False)
        self.assertIs(less((1, 2), (1, 2)), False)
        self.assertIs(less((0, 1), (0, 1)), False)
        for one in sample():
            for other in sample():
                self.assertIs(less(pair(one), pair(other)), one < other)

    def test_what_was_told_is_handed_in_whatever_its_size(self):
        told = fraction(LARGEST, 10 ** 300 - 3)
        value = Fraction(LARGEST, 10 ** 300 - 3)
        for step in range(4):
            told = times(told, told)
            value = value * value
        # No assertEqual: where it fails it would show numbers that are too long to be shown.
        self.assertTrue(told == pair(value))
        self.assertTrue(over(told, told) == (1, 1))
        self.assertTrue(minus(plus(told, (1, 3)), told) == (1, 3))
        self.assertIs(less(told, times(told, told)), True)


class Written(unittest.TestCase):
    def test_the_document_s_own(self):
        self.assertEqual(written((-3, 2)), "-3/2")
        self.assertEqual(written((7, 1)), "7")

    def test_nought_and_ones(self):
        self.assertEqual(written((0, 1)), "0")
        self.assertEqual(written((1, 1)), "1")
        self.assertEqual(written((-1, 1)), "-1")
        self.assertEqual(written((1, 10)), "1/10")

    def test_as_python_writes_them(self):
        for value in sample():
            told = written(pair(value))
            self.assertIs(type(told), str)
            self.assertEqual(told, str(value))

    def test_round_the_powers_of_ten(self):
        for power in range(1, 301):
            for number in (10 ** power - 1, 10 ** power, 10 ** power + 1):
                self.assertEqual(written((number, 1)), str(number))
                self.assertEqual(written((-number, 1)), "-" + str(number))
                self.assertEqual(written((1, number)), "1/" + str(number))

    def test_more_figures_than_python_writes(self):
        number = 7 * 10 ** 6000 + 5
        text = "7" + "0" * 5999 + "5"
        self.assertTrue(written((number, 1)) == text)
        self.assertTrue(written((-number, 2)) == "-" + text + "/2")
        self.assertTrue(written((-1, number)) == "-1/" + text)


if __name__ == "__main__":
    unittest.main()
