"""Tables of numbers."""

from rodwebs.checks import check_count, check_length
from rodwebs.errors import BadPlace, BadSizes, Hidden, Mismatch
from rodwebs.fracs import Frac, dot, fracs_of, is_number
from rodwebs.rows import kernel_rows, reduced

MOST = 100


class Table:
    """A table of Fracs that never changes."""

    def __init__(self, rows, *, width=None):
        _check_rows(rows)
        self.height = len(rows)
        self.width = _fitting_width(rows, width)
        self.rows = tuple([tuple(fracs_of(row)) for row in rows])

    def __iter__(self):
        return iter(self.rows)

    def __getitem__(self, at):
        row, col = at
        if not (0 <= row < self.height and 0 <= col < self.width):
            raise BadPlace((row, col))
        return self.rows[row][col]

    def __add__(self, other):
        if not isinstance(other, Table):
            return NotImplemented
        _check_alike(self, other)
        rows = [[x + y for x, y in zip(row, beside)] for row, beside in zip(self.rows, other.rows)]
        return Table(rows, width=self.width)

    def __sub__(self, other):
        if not isinstance(other, Table):
            return NotImplemented
        _check_alike(self, other)
        rows = [[x - y for x, y in zip(row, beside)] for row, beside in zip(self.rows, other.rows)]
        return Table(rows, width=self.width)

    def __mul__(self, other):
        if isinstance(other, Table):
            return _table_product(self, other)
        if not is_number(other):
            return NotImplemented
        return Table([[entry * other for entry in row] for row in self.rows], width=self.width)

    def __rmul__(self, other):
        if not is_number(other):
            return NotImplemented
        return self * other

    def __neg__(self):
        return Table([[-entry for entry in row] for row in self.rows], width=self.width)

    def __eq__(self, other):
        if not isinstance(other, Table):
            return NotImplemented
        return self.height == other.height and self.width == other.width and self.rows == other.rows

    def __call__(self, numbers):
        check_length(numbers, self.width)
        return applied(self, fracs_of(numbers))

    def transposed(self):
        """The table with the columns as its rows."""
        return Table([self.column(col) for col in range(self.width)], width=self.height)

    def column(self, j):
        """The list of the numbers in a column."""
        if not 0 <= j < self.width:
            raise BadPlace(j)
        return [row[j] for row in self.rows]

    def rank(self):
        """The dimension of the space of the rows."""
        pivots, _ = reduced(self.rows)
        return len(pivots)

    def inverse(self):
        """The table whose product with this one is the unit table."""
        if self.height != self.width:
            raise Mismatch()
        pivots, basis = reduced([row + one for row, one in zip(self.rows, Table.unit(self.height).rows)])
        if pivots != tuple(range(self.height)):
            raise Hidden(kernel_rows(self.rows, self.width)[0])
        return Table([row[self.width:] for row in basis], width=self.width)

    @staticmethod
    def unit(size):
        """The square table with 1 on the diagonal and 0 elsewhere."""
        check_count(size, 0, MOST)
        return Table.diagonal([1] * size)

    @staticmethod
    def zero(height, width):
        """The table of zeros."""
        check_count(height, 0, MOST)
        check_count(width, 0, MOST)
        return Table([[0] * width] * height, width=width)

    @staticmethod
    def diagonal(numbers):
        """The square table with these numbers on the diagonal and 0 elsewhere."""
        size = len(numbers)
        rows = [[numbers[k] if k == col else Frac(0) for col in range(size)] for k in range(size)]
        return Table(rows, width=size)


def applied(table, numbers):
    """The table applied to a list of Fracs that has its width."""
    return [dot(row, numbers) for row in table.rows]


def blocks(one, other):
    """The table with two tables on its diagonal and 0 elsewhere."""
    upper = [list(row) + [0] * other.width for row in one.rows]
    lower = [[0] * one.width + list(row) for row in other.rows]
    return Table(upper + lower, width=one.width + other.width)


def _check_rows(rows):
    check_count(len(rows), 0, MOST)
    if rows:
        check_count(len(rows[0]), 0, MOST)
        for row in rows:
            check_length(row, len(rows[0]))


def _fitting_width(rows, width):
    if not rows:
        check_count(width or 0, 0, MOST)
        return width or 0
    if width is not None and width != len(rows[0]):
        raise BadSizes(width, len(rows[0]))
    return len(rows[0])


def _check_alike(first, second):
    if first.height != second.height or first.width != second.width:
        raise Mismatch()


def _table_product(first, second):
    if first.width != second.height:
        raise Mismatch()
    columns = [second.column(col) for col in range(second.width)]
    return Table([[dot(row, column) for column in columns] for row in first.rows], width=second.width)
