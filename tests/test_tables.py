"""Point 13: the measure of a table, and its answer to a right row."""

import itertools
import random
import unittest
from fractions import Fraction
from math import prod

from currentfloor.errors import NoAnswer
from currentfloor.fractions import plus, times
from currentfloor.tables import answer, measure
from helper import only_whole, pair, value_of, values_of


def table_of(rows):
    """Rows of Python's own numbers as a table."""
    return tuple(tuple(pair(number) for number in row) for row in rows)


def some_number(source):
    return Fraction(source.randint(-9, 9), source.randint(1, 9))


def long_number(source):
    return Fraction(source.randrange(-(10 ** 40), 10 ** 40), source.randrange(1, 10 ** 40))


def some_rows(source, size, number=some_number):
    return [[number(source) for column in range(size)] for row in range(size)]


def sparse_number(source):
    return Fraction(source.choice((0, 0, 0, 2, -2, 1)), 2)


def by_all_orders(rows):
    """The determinant as the sum over all orders of the columns."""
    total = Fraction(0)
    for order in itertools.permutations(range(len(rows))):
        crossings = sum(1 for one, other in itertools.combinations(order, 2) if one > other)
        total += (-1) ** crossings * prod(rows[k][column] for k, column in enumerate(order))
    return total


def by_elimination(rows):
    """The determinant by Python's own fractions."""
    rows = [list(row) for row in rows]
    total = Fraction(1)
    while rows:
        lead = next((row for row in rows if row[0] != 0), None)
        if lead is None:
            return Fraction(0)
        total *= lead[0] * (-1) ** rows.index(lead)
        rest = rows[:rows.index(lead)] + rows[rows.index(lead) + 1:]
        rows = [[number - row[0] / lead[0] * other for number, other in zip(row[1:], lead[1:])] for row in rest]
    return total


class TableCase(unittest.TestCase):
    def assert_measure(self, rows, value):
        told = measure(table_of(rows))
        self.assertTrue(only_whole(told))
        self.assertEqual(told, pair(value))

    def assert_answer(self, rows, right):
        """An answer there is, and put back into the table it comes to the right row."""
        told = answer(table_of(rows), tuple(pair(number) for number in right))
        self.assertTrue(only_whole(told))
        self.assertEqual(len(told), len(rows))
        for one in told:
            self.assertEqual(one, pair(value_of(one)))
        values = values_of(told)
        for row, number in zip(rows, right):
            self.assertEqual(sum(one * other for one, other in zip(row, values)), number)


class Measure(TableCase):
    def test_no_rows(self):
        self.assertEqual(measure(()), (1, 1))

    def test_one_row(self):
        for number in (0, 1, -7, Fraction(3, 2), Fraction(-1, 10 ** 40)):
            self.assert_measure([[number]], number)

    def test_by_hand(self):
        self.assertEqual(measure((((1, 1), (2, 1)), ((3, 1), (4, 1)))), (-2, 1))
        self.assertEqual(measure((((0, 1), (1, 1)), ((1, 1), (0, 1)))), (-1, 1))
        self.assertEqual(measure((((1, 2), (1, 3)), ((1, 4), (1, 5)))), (1, 60))
        self.assert_measure([[2, 0, 0], [5, 3, 0], [7, 7, 4]], 24)
        self.assert_measure([[0, 0, 2], [0, 3, 5], [4, 7, 7]], -24)
        self.assert_measure([[0, 2, 0], [0, 0, 3], [4, 0, 0]], 24)

    def test_few_rows_by_all_orders(self):
        source = random.Random(13)
        for size in range(6):
            for number in (some_number, sparse_number, long_number):
                for time in range(12):
                    rows = some_rows(source, size, number)
                    self.assert_measure(rows, by_all_orders(rows))

    def test_up_to_fourteen_rows(self):
        source = random.Random(14)
        for size in range(6, 15):
            for number in (some_number, sparse_number):
                for time in range(4):
                    rows = some_rows(source, size, number)
                    self.assert_measure(rows, by_elimination(rows))

    def test_fourteen_rows_of_long_numbers(self):
        rows = some_rows(random.Random(15), 14, long_number)
        told = measure(table_of(rows))
        self.assertTrue(told == pair(by_elimination(rows)))

    def test_numbers_on_the_diagonal_alone(self):
        for size in range(1, 15):
            rows = [[Fraction(k + 2, k + 1) if k == column else 0 for column in range(size)] for k in range(size)]
            self.assert_measure(rows, size + 1)
            self.assert_measure(rows[::-1], (size + 1) * (-1) ** (size * (size - 1) // 2))

    def test_nought(self):
        source = random.Random(16)
        for size in range(1, 15):
            rows = some_rows(source, size)
            self.assert_measure(rows[:-1] + [[0] * size], 0)
            self.assert_measure([row[:-1] + [0] for row in rows], 0)
            self.assert_measure([[0] + row[1:] for row in rows], 0)
            self.assert_measure([[0] * size] * size, 0)
            if size > 1:
                twice = rows[:-1] + [rows[0]]
                self.assert_measure(twice, 0)
                mixed = [2 * one - other for one, other in zip(rows[0], rows[-2])]
                self.assert_measure([mixed] + rows[1:-1] + [rows[0]] if size > 2 else twice, 0)

    def test_rows_exchanged(self):
        source = random.Random(17)
        for size in range(2, 15):
            rows = some_rows(source, size)
            whole = value_of(measure(table_of(rows)))
            self.assertNotEqual(whole, 0)
            one, other = source.sample(range(size), 2)
            rows[one], rows[other] = rows[other], rows[one]
            self.assert_measure(rows, -whole)

    def test_a_row_some_times_as_great(self):
        source = random.Random(18)
        for size in range(1, 15):
            rows = some_rows(source, size)
            whole = value_of(measure(table_of(rows)))
            for many in (Fraction(-3, 7), Fraction(5), Fraction(0)):
                at = source.randrange(size)
                changed = rows[:at] + [[many * number for number in rows[at]]] + rows[at + 1:]
                self.assert_measure(changed, many * whole)

    def test_a_row_added_to_another(self):
        source = random.Random(19)
        for size in range(2, 15):
            rows = some_rows(source, size)
            whole = value_of(measure(table_of(rows)))
            rows[-1] = [one + 3 * other for one, other in zip(rows[-1], rows[0])]
            self.assert_measure(rows, whole)


class Answer(TableCase):
    def test_no_rows(self):
        self.assertEqual(answer((), ()), ())

    def test_one_row(self):
        self.assertEqual(answer((((2, 3),),), ((1, 2),)), ((3, 4),))
        self.assertEqual(answer((((-2, 3),),), ((0, 1),)), ((0, 1),))

    def test_by_hand(self):
        table = (((1, 1), (1, 1)), ((1, 1), (-1, 1)))
        self.assertEqual(answer(table, ((3, 1), (1, 1))), ((2, 1), (1, 1)))
        table = (((0, 1), (2, 1)), ((3, 1), (0, 1)))
        self.assertEqual(answer(table, ((1, 1), (1, 1))), ((1, 3), (1, 2)))

    def test_put_back(self):
        source = random.Random(20)
        for size in range(1, 15):
            for number in (some_number, sparse_number):
                for time in range(6):
                    rows = some_rows(source, size, number)
                    right = [number(source) for row in rows]
                    if by_elimination(rows) != 0:
                        self.assert_answer(rows, right)
                    else:
                        with self.assertRaises(NoAnswer):
                            answer(table_of(rows), tuple(pair(one) for one in right))

    def test_put_back_long_numbers(self):
        source = random.Random(21)
        for size in (1, 4, 9):
            rows = some_rows(source, size, long_number)
            self.assert_answer(rows, [long_number(source) for row in rows])

    def test_put_back_by_the_program_s_own_reckoning(self):
        source = random.Random(22)
        table = table_of(some_rows(source, 5))
        right = tuple(pair(some_number(source)) for row in table)
        told = answer(table, right)
        for row, number in zip(table, right):
            total = (0, 1)
            for one, other in zip(row, told):
                total = plus(total, times(one, other))
            self.assertEqual(total, number)

    def test_none_where_the_measure_is_nought(self):
        source = random.Random(23)
        for size in range(1, 15):
            rows = some_rows(source, size)
            rights = [[0] * size, [1] * size, [some_number(source) for row in rows]]
            wrong = [rows[:-1] + [[0] * size], [[0] + row[1:] for row in rows], [[0] * size] * size]
            if size > 1:
                wrong += [rows[:-1] + [rows[0]], rows[:-1] + [[-2 * number for number in rows[-2]]]]
            for table in wrong:
                for right in rights:
                    with self.assertRaises(NoAnswer):
                        answer(table_of(table), tuple(pair(number) for number in right))

    def test_nothing_changes(self):
        table = table_of(some_rows(random.Random(24), 6))
        right = tuple(pair(number) for number in range(6))
        self.assertEqual(answer(table, right), answer(table, right))
        self.assertEqual(measure(table), measure(table))


if __name__ == "__main__":
    unittest.main()
