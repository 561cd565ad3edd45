"""Equations, and the values of forms."""

from rodwebs.checks import check_length
from rodwebs.errors import Barred, Mismatch
from rodwebs.fracs import Frac, dot, fracs_of
from rodwebs.rows import reduced, solution, whole_rows


def solve(table, values):
    """A list of numbers to which the table applied gives the values."""
    check_length(values, table.height)
    found = solution(table.rows, fracs_of(values), table.width)
    if found is None:
        raise Barred(_bar(table, values))
    return found


def least_solution(table, values, form):
    """The one list to which the table applied gives the values and at which the form has its least value."""
    check_length(values, table.height)
    if form.height != table.width or form.width != table.width:
        raise Mismatch()
    # Reduced, the equations are no more than the unknown numbers, and their numbers are short.
    pivots, basis = reduced([[*row, value] for row, value in zip(table.rows, fracs_of(values))])
    if table.width in pivots:
        raise Barred(_bar(table, values))
    # At the least list, and only there, the form applied to it is a sum of multiples of the rows of the table.
    bound = [row + tuple([told[k] for told in basis]) for k, row in enumerate(form.rows)]
    told_rows = [row[:-1] + (Frac(0),) * len(basis) for row in basis]
    wanted = [Frac(0)] * table.width + [row[-1] for row in basis]
    return solution(bound + told_rows, wanted, table.width + len(basis))[:table.width]


def dip(form):
    """None if the form is above 0 at all lists but that of zeros; otherwise a tuple at which it is not."""
    _check_symmetric(form)
    return _low_place(form, True)


def below(form):
    """None if the form is nowhere below 0; otherwise a tuple at which it is."""
    _check_symmetric(form)
    return _low_place(form, False)


def _bar(table, values):
    columns = [table.column(col) for col in range(table.width)]
    wanted = [Frac(0)] * table.width + [Frac(1)]
    return tuple(solution([*columns, fracs_of(values)], wanted, table.height))


def _check_symmetric(form):
    if form != form.transposed():
        raise Mismatch()


def _low_place(form, strict):
    """A tuple at which the form is below 0 (if strict: or 0, but not all of zeros), or None if there is none."""
    rest = whole_rows(form.rows)
    last = 1
    kept = []
    for place in range(form.height):
        head = rest[0]
        low = _low_start(head, rest, strict)
        if low is not None:
            return _lifted(form, kept, [Frac(0)] * place + low)
        if head[0] == 0:
            rest = [row[1:] for row in rest[1:]]
        else:
            rest = [_lowered(row, head, last) for row in rest[1:]]
            last = head[0]
            kept.append(place)
    return None


def _low_start(head, rest, strict):
    """Numbers for the places that are left, at which what is left of the form is too low, if its head shows some."""
    start = [Frac(1)] + [Frac(0)] * (len(head) - 1)
    if head[0] < 0 or (strict and head[0] == 0):
        return start
    if head[0] > 0:
        return None
    for k in range(1, len(head)):
        if head[k] != 0:
            # With 1 at place k this makes the value -1, whatever stands on the diagonal there.
            start[0] = Frac(-1 - rest[k][k], 2 * head[k])
            start[k] = Frac(1)
            return start
    return None


def _lowered(row, head, last):
    # The division is exact: all these numbers are minors of the form at the start.
    return [(head[0] * x - row[0] * y) // last for x, y in zip(row[1:], head[1:])]


def _lifted(form, kept, start):
    """The start with such numbers at the kept places that only what was left of the form counts."""
    rows = [[form.rows[k][j] for j in kept] for k in kept]
    found = solution(rows, [-dot(form.rows[k], start) for k in kept], len(kept))
    out = list(start)
    for k, number in zip(kept, found):
        out[k] = number
    return tuple(out)
