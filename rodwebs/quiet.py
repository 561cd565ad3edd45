"""Quiet polynomials: the bottoms of the quotients of piles."""

from rodwebs.checks import check_count
from rodwebs.errors import BadBottom, Loud
from rodwebs.fracs import dot
from rodwebs.piles import Pile, check_end, is_pane
from rodwebs.solving import dip
from rodwebs.tables import Table

MOST_SIZE = 24


def step_numbers(bottom, size):
    """The list of the step numbers of a polynomial that are found."""
    _check_bottom(bottom, size)
    found = []
    left = _filled(bottom, size + 1)
    for _ in range(size):
        step = left[-1]
        found.append(step)
        if not is_pane(step):
            return found
        # The polynomial P of a step is always the one that is left with its coefficients in reverse order.
        less = [x - step * y for x, y in zip(left, left[::-1])]
        left = [number.over(1 - step * step) for number in less[:-1]]
    return found


def quiet(bottom, size):
    """Whether a polynomial is quiet for a size."""
    steps = step_numbers(bottom, size)
    return all([is_pane(step) for step in steps])


def quiet_form(bottom, size):
    """The quiet form of a polynomial for a size."""
    _check_bottom(bottom, size)
    ahead = _filled(bottom, size + 1)
    behind = ahead[::-1]
    return Table([[_form_entry(ahead, behind, i, j, size) for j in range(size)] for i in range(size)])


def noise(bottom, size):
    """None if a polynomial is quiet for a size; otherwise a tuple at which its quiet form is not above 0."""
    return dip(quiet_form(bottom, size))


def pile_of_bottom(bottom, size, *, end=1):
    """The Pile with so many panes and this end whose quotient has this bottom."""
    _check_bottom(bottom, size)
    check_end(end)
    steps = step_numbers(bottom, size)
    for index, step in enumerate(steps):
        if not is_pane(step):
            raise Loud(index)
    return Pile([end * step for step in steps], end=end)


def _check_bottom(bottom, size):
    if bottom(0) != 1:
        raise BadBottom()
    check_count(size, bottom.degree, MOST_SIZE)


def _filled(poly, count):
    """The first so many coefficients as a list, with zeros behind them."""
    return list(poly.powers(count))


def _form_entry(ahead, behind, i, j, size):
    last = max(int(i), int(j))
    mine = dot(ahead[last - i:size - i], ahead[last - j:size - j])
    return mine - dot(behind[last - i:size - i], behind[last - j:size - j])
