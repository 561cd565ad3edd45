"""Spaces of lists of numbers."""

from rodwebs.checks import check_count, check_length
from rodwebs.errors import BadSizes, Mismatch
from rodwebs.fracs import dot, fracs_of
from rodwebs.rows import kernel_rows, reduced, solution
from rodwebs.tables import Table

MOST = 100


class Space:
    """All sums of multiples of some lists of one size."""

    def __init__(self, size, *lists):
        check_count(size, 0, MOST)
        for numbers in lists:
            check_length(numbers, size)
        self.size = size
        self.pivots, self.basis = reduced([fracs_of(numbers) for numbers in lists])

    def __len__(self):
        return len(self.basis)

    def __iter__(self):
        return iter(self.basis)

    def __contains__(self, numbers):
        check_length(numbers, self.size)
        given = fracs_of(numbers)
        # In the space only the sum of the basis with the numbers at the pivots as weights can be the list.
        weights = [given[pivot] for pivot in self.pivots]
        return all([dot(weights, [row[k] for row in self.basis]) == given[k] for k in range(self.size)])

    def __or__(self, other):
        _check_sizes(self, other)
        rows = [*self.basis, *other.basis]
        return Space(self.size, *rows)

    def __and__(self, other):
        _check_sizes(self, other)
        bars = [*kernel_rows(self.basis, self.size), *kernel_rows(other.basis, self.size)]
        rows = kernel_rows(bars, self.size)
        return Space(self.size, *rows)

    def __le__(self, other):
        if not isinstance(other, Space):
            return NotImplemented
        _check_sizes(self, other)
        return all([row in other for row in self.basis])

    def __eq__(self, other):
        if not isinstance(other, Space):
            return NotImplemented
        return self.size == other.size and self.basis == other.basis

    @staticmethod
    def whole(size):
        """The space of all lists of this size."""
        rows = Table.unit(size).rows
        return Space(size, *rows)

    @staticmethod
    def kernel(table):
        """The space of all lists that the table takes to zeros."""
        rows = kernel_rows(table.rows, table.width)
        return Space(table.width, *rows)

    def image(self, table):
        """The space of all lists that the table gives for the lists of this space."""
        if self.size != table.width:
            raise BadSizes(self.size, table.width)
        rows = [table(row) for row in self.basis]
        return Space(table.height, *rows)

    def across(self, form):
        """The space of all lists whose product by the form with each list of this space is 0."""
        _check_form(form, self.size)
        rows = kernel_rows([form(row) for row in self.basis], self.size)
        return Space(self.size, *rows)

    def parts(self, numbers, form):
        """The part of the numbers in this space, and the part across to it."""
        check_length(numbers, self.size)
        _check_form(form, self.size)
        given = fracs_of(numbers)
        inside = _projected(self.basis, given, form)
        return inside, [x - y for x, y in zip(given, inside)]


def grown(rows, table, ticks):
    """The list of the spaces of what comes in 0, 1, 2 .. ticks.

    In each tick the rows come, and the table takes on what came before.
    """
    spaces = [Space(table.width)]
    while len(spaces) <= ticks:
        last = spaces[-1]
        # The numbers of a basis stay shorter than those of the rows that belong to the ticks.
        new = rows + [table(row) for row in last.basis]
        more = Space(table.width, *new)
        # Once a tick brings nothing new, no later one does.
        if len(more) == len(last):
            return spaces + [last] * (ticks + 1 - len(spaces))
        spaces.append(more)
    return spaces


def _check_sizes(first, second):
    if first.size != second.size:
        raise BadSizes(second.size, first.size)


def _check_form(form, size):
    if form.height != size or form.width != size:
        raise Mismatch()


def _projected(basis, numbers, form):
    """The sum of multiples of the basis that leaves a rest across to the basis by the form."""
    bent = [form(row) for row in basis]
    rows = [[dot(row, other) for other in basis] for row in bent]
    weights = solution(rows, [dot(row, numbers) for row in bent], len(basis))
    return [dot(weights, [row[k] for row in basis]) for k in range(len(numbers))]
