"""Points 58, 59 and 60: equations, and the values of forms."""

import unittest
from fractions import Fraction

from rodwebs.errors import BadSizes, Barred, Mismatch
from rodwebs.fracs import Frac
from rodwebs.solving import below, dip, least_solution, solve
from rodwebs.tables import Table
from tests.helpers import Looks, applied, exact, fracs, rank_of, some_fraction, source, value_of


def some_rows(draw, height, width, most=5):
    return [[some_fraction(draw, most) for _ in range(width)] for _ in range(height)]


def low_rank_rows(draw, height, width, rank):
    left, right = some_rows(draw, height, rank, 3), some_rows(draw, rank, width, 3)
    return [[sum(x * y for x, y in zip(row, column)) for column in zip(*right)] for row in left]


def table_of(rows, width=None):
    return Table([fracs(row) for row in rows], width=width)


def above_zero(draw, size):
    """A symmetric form that is above 0 everywhere but at zeros: a square and a diagonal."""
    rows = some_rows(draw, size, size)
    return [[sum(row[i] * row[j] for row in rows) + (i == j) for j in range(size)] for i in range(size)]


class EquationLooks(Looks):
    def solved(self, rows, values, width=None):
        found = solve(table_of(rows, width), fracs(values))
        self.assertIs(type(found), list)
        self.all_fracs(found)
        self.assertEqual(len(found), len(rows[0]) if rows else width or 0)
        self.assertEqual(applied(rows, exact(found)), exact(values))

    def barred(self, call, rows, values, *more):
        error = self.refused(Barred, {}, call, table_of(rows), fracs(values), *more)
        self.assertIs(type(error.weights), tuple)
        self.all_fracs(error.weights)
        weights = exact(error.weights)
        self.assertEqual(len(weights), len(rows))
        for column in zip(*rows):
            self.assertEqual(sum(w * x for w, x in zip(weights, column)), 0)
        self.assertNotEqual(sum(w * x for w, x in zip(weights, exact(values))), 0)


class Equations(EquationLooks, unittest.TestCase):
    def test_one_solution(self):
        draw = source(581)
        for size in (1, 2, 3, 5):
            for _ in range(4):
                rows = some_rows(draw, size, size)
                if rank_of(rows) == size:
                    values = [some_fraction(draw) for _ in range(size)]
                    self.solved(rows, values)
        self.same(solve(Table([[2, 1], [0, 3]]), (5, 3)), [2, 1])
        self.same(solve(Table([[0, Frac(1, 2)], [4, 0]]), [1, Frac(2)]), [Fraction(1, 2), 2])

    def test_many_solutions_or_none(self):
        draw = source(582)
        for height, width, rank in [(2, 4, 2), (4, 3, 2), (3, 5, 1), (5, 5, 3), (6, 2, 2)]:
            for _ in range(5):
                rows = low_rank_rows(draw, height, width, rank)
                inside = applied(rows, [some_fraction(draw) for _ in range(width)])
                self.solved(rows, inside)
                values = [some_fraction(draw) for _ in range(height)]
                longer = [row + [value] for row, value in zip(rows, values)]
                if rank_of(longer) > rank_of(rows):
                    self.barred(solve, rows, values)
                else:
                    self.solved(rows, values)

    def test_edges(self):
        self.assertEqual(solve(Table([]), []), [])
        self.solved([], [], 3)
        self.assertEqual(solve(Table([[], []]), [0, 0]), [])
        self.barred(solve, [[], [], []], [0, 0, 2])
        self.barred(solve, [[0]], [1])
        self.barred(solve, [[0, 0], [1, 1]], [Fraction(1, 3), 0])
        self.solved([[0, 0], [1, 1]], [0, 7])
        self.barred(solve, [[1], [1], [1]], [1, 1, 2])

    def test_wrong_lengths(self):
        table = Table([[1, 2], [3, 4], [5, 6]])
        for given in (0, 2, 4):
            self.refused(BadSizes, {"given": given, "wanted": 3}, solve, table, [1] * given)
            self.refused(BadSizes, {"given": given, "wanted": 3}, least_solution, table, [1] * given, Table.unit(2))

    def test_arguments_stay(self):
        table, values = Table([[1, 1], [1, 1]]), [1, 1]
        found = solve(table, values)
        found[0] = 5
        self.assertEqual(values, [1, 1])
        self.same(list(table), [[1, 1], [1, 1]])
        self.assertRaises(Barred, solve, table, [1, 2])

    def test_large(self):
        draw = source(583)
        rows = [[Fraction(draw.randint(-2, 2)) for _ in range(40)] for _ in range(40)]
        inside = applied(rows, [Fraction(draw.randint(-5, 5)) for _ in range(40)])
        self.solved(rows, inside)


class Least(EquationLooks, unittest.TestCase):
    def test_least(self):
        draw = source(591)
        for height, width, rank in [(1, 1, 1), (1, 3, 1), (2, 4, 2), (4, 3, 2), (3, 5, 1), (4, 4, 4), (5, 3, 3)]:
            for _ in range(3):
                rows = low_rank_rows(draw, height, width, rank)
                form = above_zero(draw, width)
                inside = applied(rows, [some_fraction(draw) for _ in range(width)])
                found = least_solution(table_of(rows), fracs(inside), table_of(form))
                self.assertIs(type(found), list)
                self.all_fracs(found)
                found = exact(found)
                self.assertEqual(len(found), width)
                self.assertEqual(applied(rows, found), inside)
                # Least exactly if the form applied to it does not leave the space of the rows.
                self.assertEqual(rank_of(rows + [applied(form, found)]), rank_of(rows))

    def test_told_values(self):
        self.same(least_solution(Table([[1, 1]]), [2], Table.unit(2)), [1, 1])
        self.same(least_solution(Table([[1, 1]]), (3,), Table.diagonal([1, 2])), [2, 1])
        self.same(least_solution(Table([[1, 1]]), [1], Table([[2, -1], [-1, 1]])),
                  [Fraction(2, 5), Fraction(3, 5)])
        self.same(least_solution(Table([[1, 0], [2, 0]]), [1, 2], Table.unit(2)), [1, 0])

    def test_least_edges(self):
        self.assertEqual(least_solution(Table([]), [], Table([])), [])
        self.same(least_solution(Table([], width=3), [], Table.diagonal([1, 2, 3])), [0, 0, 0])
        self.assertEqual(least_solution(Table([[], []]), [0, 0], Table([])), [])

    def test_least_barred(self):
        self.barred(least_solution, [[1, 1], [2, 2]], [1, 3], Table.unit(2))
        self.barred(least_solution, [[], []], [0, 1], Table([]))
        self.barred(least_solution, [[0, 0, 0]], [-2], Table.diagonal([1, 2, 3]))

    def test_form_that_does_not_fit(self):
        table = Table([[1, 1], [1, 1]])
        for form in (Table.unit(1), Table.unit(3), Table([[1, 0]]), Table([[1], [0]]), Table([])):
            self.refused(Mismatch, {}, least_solution, table, [1, 1], form)

    def test_order_of_errors(self):
        table = Table([[1, 1], [1, 1]])
        self.refused(BadSizes, {"given": 1, "wanted": 2}, least_solution, table, [1], Table.unit(3))
        self.refused(Mismatch, {}, least_solution, table, [1, 2], Table.unit(3))


class Forms(Looks, unittest.TestCase):
    def low(self, call, rows, least):
        """The call tells a tuple at which the value is low enough: at most 0 for dip, below 0 for below."""
        found = call(table_of(rows))
        self.assertIs(type(found), tuple)
        self.all_fracs(found)
        self.assertEqual(len(found), len(rows))
        self.assertTrue(any(exact(found)))
        value = value_of(exact(rows), exact(found))
        self.assertTrue(value < 0 if least == "below" else value <= 0, value)

    def never_low(self, call, rows):
        self.assertIsNone(call(table_of(rows)))

    def test_above_zero(self):
        draw = source(601)
        for size in (1, 2, 3, 5):
            rows = above_zero(draw, size)
            self.never_low(dip, rows)
            self.never_low(below, rows)

    def test_empty(self):
        self.assertIsNone(dip(Table([])))
        self.assertIsNone(below(Table([])))

    def test_border(self):
        draw = source(602)
        for size, rank in [(1, 0), (2, 1), (3, 1), (3, 2), (4, 2), (5, 4)]:
            for _ in range(4):
                rows = low_rank_rows(draw, rank, size, rank) if rank else []
                square = [[sum((row[i] * row[j] for row in rows), Fraction(0)) for j in range(size)]
                          for i in range(size)]
                self.low(dip, square, "zero")
                self.never_low(below, square)
                tiny = Fraction(1, 10 ** 40)
                more = [[x + tiny * (i == j) for j, x in enumerate(row)] for i, row in enumerate(square)]
                less = [[x - tiny * (i == j) for j, x in enumerate(row)] for i, row in enumerate(square)]
                self.never_low(dip, more)
                self.never_low(below, more)
                self.low(dip, less, "zero")
                self.low(below, less, "below")

    def test_below_zero(self):
        draw = source(603)
        for size in (1, 2, 3, 4, 6):
            for _ in range(5):
                rows = some_rows(draw, size, size)
                mixed = [[rows[i][j] + rows[j][i] for j in range(size)] for i in range(size)]
                mixed[size - 1][size - 1] = Fraction(-1, 10)
                self.low(dip, mixed, "zero")
                self.low(below, mixed, "below")

    def test_zeros_on_the_diagonal(self):
        for rows in ([[0, 1], [1, 0]], [[0, 1], [1, 5]], [[0, -1], [-1, 7]], [[1, 1, 0], [1, 1, 1], [0, 1, 9]],
                     [[0, 0, 0], [0, 0, 2], [0, 2, 1]], [[1, 2, 3], [2, 4, 5], [3, 5, 100]],
                     [[0, 0, 0, 3], [0, 1, 0, 0], [0, 0, 1, 0], [3, 0, 0, 1000]]):
            self.low(dip, rows, "zero")
            self.low(below, rows, "below")
        for rows in ([[0]], [[0, 0], [0, 0]], [[1, 1], [1, 1]], [[0, 0, 0], [0, 2, 2], [0, 2, 2]],
                     [[1, 2, 0], [2, 4, 0], [0, 0, 1]]):
            self.low(dip, rows, "zero")
            self.never_low(below, rows)

    def test_thirds(self):
        self.never_low(dip, [[Fraction(1, 3), Fraction(1, 2)], [Fraction(1, 2), Fraction(4, 5)]])
        self.low(dip, [[Fraction(1, 3), Fraction(1, 2)], [Fraction(1, 2), Fraction(3, 4)]], "zero")
        self.never_low(below, [[Fraction(1, 3), Fraction(1, 2)], [Fraction(1, 2), Fraction(3, 4)]])
        self.low(below, [[Fraction(1, 3), Fraction(1, 2)], [Fraction(1, 2), Fraction(7, 10)]], "below")

    def test_not_symmetric(self):
        for form in (Table([[1, 2]]), Table([[1], [2]]), Table([], width=1), Table([[]]), Table([[1, 2], [3, 4]]),
                     Table([[-1, 2], [3, -1]]), Table([[1, 0, 0], [0, 1, 0], [0, Frac(1, 10 ** 30), 1]])):
            self.refused(Mismatch, {}, dip, form)
            self.refused(Mismatch, {}, below, form)


if __name__ == "__main__":
    unittest.main()
