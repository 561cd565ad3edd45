"""Points 55, 56 and 57: Table."""

import operator
import unittest
from fractions import Fraction

from rodwebs.errors import BadCount, BadPlace, BadSizes, Hidden, Mismatch
from rodwebs.fracs import Frac
from rodwebs.tables import Table
from tests.helpers import Looks, applied, exact, frac, fracs, rank_of, some_fraction, source


def some_rows(draw, height, width, most=9):
    return [[some_fraction(draw, most) for _ in range(width)] for _ in range(height)]


def table_of(rows, width=None):
    return Table([fracs(row) for row in rows], width=width)


class TableLooks(Looks):
    def holds(self, table, rows, width):
        """The table has these rows and this width, in Fracs."""
        self.assertIs(type(table), Table)
        self.assertEqual((table.height, table.width), (len(rows), width))
        self.assertEqual((type(table.height), type(table.width)), (int, int))
        given = list(table)
        for row in given:
            self.assertIs(type(row), tuple)
        self.all_fracs(given)
        self.assertEqual(exact(given), exact(rows))


class Making(TableLooks, unittest.TestCase):
    def test_rows(self):
        self.holds(Table([[1, Frac(1, 2)], (Frac(4, 2), -3)]), [[1, Fraction(1, 2)], [2, -3]], 2)
        self.holds(Table(((1,), [2], (3,))), [[1], [2], [3]], 1)

    def test_no_rows_or_no_columns(self):
        self.holds(Table([]), [], 0)
        self.holds(Table((), width=None), [], 0)
        self.holds(Table([], width=0), [], 0)
        self.holds(Table([], width=5), [], 5)
        self.holds(Table([], width=100), [], 100)
        self.holds(Table([[], (), []]), [[], [], []], 0)
        self.holds(Table([[]], width=0), [[]], 0)

    def test_given_width(self):
        self.holds(Table([[1, 2]], width=2), [[1, 2]], 2)
        self.holds(Table([[1, 2]], width=None), [[1, 2]], 2)
        self.refused(BadSizes, {"given": 3, "wanted": 2}, Table, [[1, 2]], width=3)
        self.refused(BadSizes, {"given": 0, "wanted": 2}, Table, [[1, 2]], width=0)
        self.refused(BadSizes, {"given": -1, "wanted": 2}, Table, [[1, 2]], width=-1)
        self.refused(BadSizes, {"given": 101, "wanted": 1}, Table, [[1]], width=101)
        self.refused(BadSizes, {"given": 1, "wanted": 0}, Table, [[]], width=1)
        self.refused(BadCount, {"count": 101}, Table, [], width=101)
        self.refused(BadCount, {"count": -1}, Table, [], width=-1)
        self.refused(BadCount, {"count": 10 ** 30}, Table, (), width=10 ** 30)

    def test_most_rows_and_columns(self):
        self.holds(Table([[1]] * 100), [[1]] * 100, 1)
        self.holds(Table([[1] * 100]), [[1] * 100], 100)
        self.refused(BadCount, {"count": 101}, Table, [[1]] * 101)
        self.refused(BadCount, {"count": 101}, Table, [[1] * 101])
        self.refused(BadCount, {"count": 300}, Table, [[]] * 300)

    def test_rows_of_other_lengths(self):
        self.refused(BadSizes, {"given": 1, "wanted": 2}, Table, [[1, 2], [3, 4], [5], [6, 7, 8]])
        self.refused(BadSizes, {"given": 3, "wanted": 2}, Table, [[1, 2], [6, 7, 8], [5]])
        self.refused(BadSizes, {"given": 1, "wanted": 0}, Table, [[], [1]])
        self.refused(BadSizes, {"given": 101, "wanted": 1}, Table, [[1], [1] * 101])

    def test_order_of_errors(self):
        self.refused(BadCount, {"count": 101}, Table, [[1] * 102] + [[1]] * 100, width=7)
        self.refused(BadCount, {"count": 101}, Table, [[1] * 101, [1]], width=7)
        self.refused(BadSizes, {"given": 1, "wanted": 2}, Table, [[1, 2], [3]], width=7)
        self.refused(BadSizes, {"given": 1, "wanted": 2}, Table, [[1, 2], [3]], width=101)

    def test_copies(self):
        rows = [[1, 2], [3, 4]]
        table = Table(rows)
        rows[0][0] = 9
        rows.append([5, 6])
        self.holds(table, [[1, 2], [3, 4]], 2)
        table.column(0)[0] = 9
        table([1, 1])[0] = 9
        list(table)[0] = (7, 7)
        self.holds(table, [[1, 2], [3, 4]], 2)
        self.assertEqual(rows, [[9, 2], [3, 4], [5, 6]])


class Entries(TableLooks, unittest.TestCase):
    def test_entry(self):
        table = Table([[1, 2, 3], [4, 5, Frac(6, 4)]])
        self.one(table[0, 0], 1)
        self.one(table[0, 2], 3)
        self.one(table[1, 0], 4)
        self.one(table[1, 2], Fraction(3, 2))

    def test_no_such_entry(self):
        table = Table([[1, 2, 3], [4, 5, 6]])
        for place in [(2, 0), (0, 3), (-1, 0), (0, -1), (2, 3), (10 ** 30, 0), (1, -10 ** 30)]:
            error = self.refused(BadPlace, {"place": place}, operator.getitem, table, place)
            self.assertIs(type(error.place), tuple)
        self.refused(BadPlace, {"place": (0, 0)}, operator.getitem, Table([], width=3), (0, 0))
        self.refused(BadPlace, {"place": (0, 0)}, operator.getitem, Table([[]]), (0, 0))

    def test_iteration(self):
        table = Table([[1, 2], [3, 4]])
        self.assertEqual([type(row) for row in table], [tuple, tuple])
        self.same(list(table), [[1, 2], [3, 4]])
        self.assertEqual(list(Table([], width=4)), [])
        self.assertEqual(list(Table([[], []])), [(), ()])

    def test_column(self):
        table = Table([[1, 2, 3], [4, 5, 6]])
        self.assertIs(type(table.column(2)), list)
        self.same(table.column(0), [1, 4])
        self.same(table.column(2), [3, 6])
        self.assertEqual(Table([], width=2).column(1), [])
        for place in (3, -1, 10 ** 30, -10 ** 30):
            self.refused(BadPlace, {"place": place}, table.column, place)
        self.refused(BadPlace, {"place": 0}, Table([[]]).column, 0)
        self.refused(BadPlace, {"place": 2}, Table([], width=2).column, 2)


class Signs(TableLooks, unittest.TestCase):
    def test_sum_difference_negative(self):
        draw = source(56)
        for height, width in [(1, 1), (2, 3), (4, 2), (3, 3)]:
            one, other = some_rows(draw, height, width), some_rows(draw, height, width)
            first, second = table_of(one), table_of(other)
            self.holds(first + second, [[x + y for x, y in zip(r, s)] for r, s in zip(one, other)], width)
            self.holds(first - second, [[x - y for x, y in zip(r, s)] for r, s in zip(one, other)], width)
            self.holds(-first, [[-x for x in r] for r in one], width)
            self.holds(first, one, width)
            self.holds(second, other, width)

    def test_empty_ones_keep_their_sizes(self):
        wide, tall = Table([], width=3), Table([[], []])
        for made in (wide + wide, wide - wide, -wide, wide * 2, Frac(1, 2) * wide):
            self.holds(made, [], 3)
        for made in (tall + tall, tall - tall, -tall, tall * Frac(3), 0 * tall):
            self.holds(made, [[], []], 0)

    def test_sizes_that_differ(self):
        for first, second in [(Table([[1]]), Table([[1, 2]])), (Table([[1]]), Table([[1], [2]])),
                              (Table([], width=1), Table([], width=2)), (Table([[]]), Table([])),
                              (Table([[1, 2]]), Table([[1], [2]]))]:
            self.refused(Mismatch, {}, operator.add, first, second)
            self.refused(Mismatch, {}, operator.sub, first, second)

    def test_product(self):
        draw = source(57)
        for height, middle, width in [(1, 1, 1), (2, 3, 4), (3, 1, 2), (4, 4, 4), (1, 5, 1)]:
            one, other = some_rows(draw, height, middle), some_rows(draw, middle, width)
            wanted = [[sum(one[i][k] * other[k][j] for k in range(middle)) for j in range(width)]
                      for i in range(height)]
            self.holds(table_of(one) * table_of(other), wanted, width)

    def test_product_of_empty_ones(self):
        self.holds(Table([], width=2) * Table([[1, 2, 3], [4, 5, 6]]), [], 3)
        self.holds(Table([[1, 2]]) * Table([[], []]), [[]], 0)
        self.holds(Table([[], []]) * Table([], width=3), [[0, 0, 0], [0, 0, 0]], 3)
        self.holds(Table([]) * Table([]), [], 0)

    def test_product_that_does_not_fit(self):
        for first, second in [(Table([[1, 2]]), Table([[1, 2]])), (Table([[1]]), Table([], width=1)),
                              (Table([], width=2), Table([]))]:
            self.refused(Mismatch, {}, operator.mul, first, second)

    def test_multiples(self):
        table = Table([[1, Frac(1, 2)], [0, -3]])
        for factor in (3, Frac(3), 0, -1, Frac(-2, 5)):
            worth = exact(factor)
            wanted = [[worth, worth / 2], [0, -3 * worth]]
            self.holds(table * factor, wanted, 2)
            self.holds(factor * table, wanted, 2)

    def test_equal(self):
        table = Table([[1, Frac(1, 2)], [0, -3]])
        self.truth(table == Table(((Frac(1), Frac(2, 4)), (0, -3))), True)
        self.truth(table != Table(((Frac(1), Frac(2, 4)), (0, -3))), False)
        self.truth(table == Table([[1, Frac(1, 2)], [0, 3]]), False)
        self.truth(table != Table([[1, Frac(1, 2)], [0, 3]]), True)
        self.truth(Table([[1, 2]]) == Table([[1], [2]]), False)
        self.truth(Table([], width=2) == Table([], width=3), False)
        self.truth(Table([], width=2) == Table([], width=2), True)
        self.truth(Table([]) == Table([[]]), False)
        for other in ([[1, Frac(1, 2)], [0, -3]], None, 0, table.rank):
            self.truth(table == other, False)
            self.truth(table != other, True)

    def test_applied(self):
        draw = source(58)
        for height, width in [(1, 1), (2, 3), (4, 2)]:
            rows = some_rows(draw, height, width)
            numbers = [some_fraction(draw) for _ in range(width)]
            given = table_of(rows)(fracs(numbers))
            self.assertIs(type(given), list)
            self.same(given, applied(rows, numbers))
        self.same(Table([[1, 2], [3, 4]])((1, Frac(1, 2))), [2, 5])
        self.same(Table([[], []])([]), [0, 0])
        self.assertEqual(Table([], width=2)([1, 2]), [])
        self.refused(BadSizes, {"given": 1, "wanted": 2}, Table([[1, 2], [3, 4]]), [1])
        self.refused(BadSizes, {"given": 3, "wanted": 2}, Table([[1, 2]]), (1, 2, 3))
        self.refused(BadSizes, {"given": 0, "wanted": 2}, Table([], width=2), [])

    def test_nothing_changes(self):
        table = Table([[1, 2], [3, 4]])
        same = table
        table += Table([[1, 1], [1, 1]])
        self.holds(same, [[1, 2], [3, 4]], 2)
        self.holds(table, [[2, 3], [4, 5]], 2)
        same.transposed()
        same.inverse()
        same * same
        self.holds(same, [[1, 2], [3, 4]], 2)


class Work(TableLooks, unittest.TestCase):
    def test_transposed(self):
        self.holds(Table([[1, 2, 3], [4, 5, 6]]).transposed(), [[1, 4], [2, 5], [3, 6]], 2)
        self.holds(Table([], width=3).transposed(), [[], [], []], 0)
        self.holds(Table([[], []]).transposed(), [], 2)
        self.holds(Table([]).transposed(), [], 0)

    def test_rank(self):
        draw = source(59)
        for height, middle, width in [(3, 1, 3), (4, 2, 5), (5, 3, 4), (4, 4, 4), (6, 2, 2), (1, 1, 6)]:
            for _ in range(4):
                left, right = some_rows(draw, height, middle, 3), some_rows(draw, middle, width, 3)
                rows = [[sum(x * y for x, y in zip(row, column)) for column in zip(*right)] for row in left]
                rank = table_of(rows).rank()
                self.assertIs(type(rank), int)
                self.assertEqual(rank, rank_of(rows))
        for table in (Table([]), Table([], width=4), Table([[], []]), Table.zero(3, 2)):
            self.assertEqual(table.rank(), 0)
        self.assertEqual(Table.unit(100).rank(), 100)
        self.assertEqual(Table([[0, 0, 0, 5]]).rank(), 1)

    def test_inverse(self):
        draw = source(60)
        done = 0
        for size in (1, 2, 3, 4, 6):
            for _ in range(5):
                rows = some_rows(draw, size, size)
                if rank_of(rows) < size:
                    continue
                inverse = table_of(rows).inverse()
                unit = [[int(i == j) for j in range(size)] for i in range(size)]
                self.holds(inverse, exact(list(inverse)), size)
                found = exact(list(inverse))
                self.assertEqual([applied(rows, column) for column in zip(*found)], unit)
                done += 1
        self.assertGreater(done, 15)
        self.holds(Table([[0, 2], [Frac(1, 3), 0]]).inverse(), [[0, 3], [Fraction(1, 2), 0]], 2)
        self.holds(Table([]).inverse(), [], 0)

    def test_no_inverse(self):
        for rows in ([[0]], [[1, 2], [2, 4]], [[0, 0], [0, 0]], [[1, 2, 3], [4, 5, 6], [7, 8, 9]],
                     [[0, 1, 0], [0, 0, 1], [0, 0, 0]], [[0, 1], [0, 1]]):
            error = self.refused(Hidden, {}, Table(rows).inverse)
            self.assertIs(type(error.numbers), tuple)
            self.assertEqual(len(error.numbers), len(rows))
            self.all_fracs(error.numbers)
            self.assertTrue(any(exact(error.numbers)))
            self.assertFalse(any(applied(exact(rows), exact(error.numbers))))

    def test_not_square(self):
        for table in (Table([[1, 2]]), Table([[1], [2]]), Table([], width=1), Table([[]]), Table([[0, 0]])):
            self.refused(Mismatch, {}, table.inverse)

    def test_unit(self):
        for size in (0, 1, 3, 100):
            self.holds(Table.unit(size), [[int(i == j) for j in range(size)] for i in range(size)], size)
        for size in (-1, 101, 10 ** 30):
            self.refused(BadCount, {"count": size}, Table.unit, size)

    def test_zero(self):
        for height, width in [(0, 0), (2, 3), (0, 4), (4, 0), (100, 1), (1, 100)]:
            self.holds(Table.zero(height, width), [[0] * width] * height, width)
        for height, width, count in [(101, 1, 101), (1, 101, 101), (-1, 102, -1), (102, -1, 102), (0, 101, 101),
                                     (0, -1, -1), (3, -2, -2), (3, -1, -1)]:
            self.refused(BadCount, {"count": count}, Table.zero, height, width)

    def test_diagonal(self):
        self.holds(Table.diagonal([1, Frac(1, 2), 0]), [[1, 0, 0], [0, Fraction(1, 2), 0], [0, 0, 0]], 3)
        self.holds(Table.diagonal((5,)), [[5]], 1)
        self.holds(Table.diagonal([]), [], 0)
        self.assertEqual(Table.diagonal([1] * 100), Table.unit(100))
        self.refused(BadCount, {"count": 101}, Table.diagonal, [1] * 101)

    def test_sixty_digits(self):
        most = 10 ** 60 - 1
        rows = [[Fraction(most, 7), Fraction(-1, most)], [Fraction(3), Fraction(most - 2, most)]]
        found = exact(list(table_of(rows).inverse()))
        self.assertEqual([applied(rows, column) for column in zip(*found)], [[1, 0], [0, 1]])
        self.one(Table([[frac(rows[0][0])]])[0, 0], rows[0][0])


if __name__ == "__main__":
    unittest.main()
