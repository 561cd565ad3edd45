"""Elimination in lists of rows of Fracs.

It is done in rows of integers without a common divisor, which stay as short as they can be.
"""

from math import gcd

from rodwebs.fracs import Frac, shared


def reduced(rows):
    """The places of the leading ones and the rows of the reduced form of rows of one length, both as tuples."""
    work = [whole_row(row) for row in rows]
    width = len(work[0]) if work else 0
    pivots = []
    for col in range(width):
        top = len(pivots)
        at = _first_with(work, top, col)
        if at is not None:
            work = _cleared(_swapped(work, top, at), top, col)
            pivots.append(col)
    basis = [tuple([Frac(number, row[place]) for number in row]) for row, place in zip(work, pivots)]
    return tuple(pivots), tuple(basis)


def kernel_rows(rows, width):
    """A list of tuples that are a basis of all lists with which each of the rows has the product 0."""
    pivots, basis = reduced(rows)
    return [_kernel_row(pivots, basis, col, width) for col in range(width) if col not in pivots]


def solution(rows, values, width):
    """A list of Fracs that has these products with the rows, or None if there is none."""
    pivots, basis = reduced([[*row, value] for row, value in zip(rows, values)])
    if width in pivots:
        return None
    found = [Frac(0) for _ in range(width)]
    for pivot, row in zip(pivots, basis):
        found[pivot] = row[width]
    return found


def whole_row(row):
    """A row of Fracs, multiplied by the number above 0 that makes it integers without a common divisor."""
    tops, _ = shared(row)
    return without_common(tops)


def without_common(numbers):
    """A list of integers, divided by their greatest common divisor."""
    content = 0
    for number in numbers:
        content = gcd(content, number)
        if content == 1:
            return numbers
    return [number // content for number in numbers] if content > 1 else numbers


def whole_rows(rows):
    """Rows of Fracs, all multiplied by one number above 0 that makes all of them integers."""
    tops, _ = shared([number for row in rows for number in row])
    width = len(rows[0]) if rows else 0
    return [tops[k * width:(k + 1) * width] for k in range(len(rows))]


def _kernel_row(pivots, basis, col, width):
    out = [Frac(0) for _ in range(width)]
    out[col] = Frac(1)
    for pivot, row in zip(pivots, basis):
        out[pivot] = -row[col]
    return tuple(out)


def _first_with(work, top, col):
    for k in range(top, len(work)):
        if work[k][col] != 0:
            return k
    return None


def _swapped(work, one, other):
    out = list(work)
    out[one] = work[other]
    out[other] = work[one]
    return out


def _cleared(work, top, col):
    return [row if k == top else _combined(row, work[top], col) for k, row in enumerate(work)]


def _combined(row, pivot_row, col):
    """The row plus some multiple of the pivot row that makes its number in the column 0, in short integers."""
    if row[col] == 0:
        return row
    common = gcd(row[col], pivot_row[col])
    up = pivot_row[col] // common
    down = row[col] // common
    return without_common([up * one - down * other for one, other in zip(row, pivot_row)])
