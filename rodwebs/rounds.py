"""States that come again, alone or knocked in rounds."""

from math import lcm

from rodwebs.checks import check_count, check_length, check_lengths
from rodwebs.fracs import dot, fracs_of
from rodwebs.heardparts import heard_space
from rodwebs.polys import Poly
from rodwebs.rows import kernel_rows, solution
from rodwebs.runs import play

MOST_KNOCKS = 12
# A root of unity of a higher order has a least polynomial of a degree above 24, the greatest number of cells.
MOST_ORDER = 90


def period(player, state):
    """The least number of ticks after which a state comes again when the player is played alone, or None."""
    check_length(state, player.cells)
    poly = _least_poly(player, state)
    # The state comes again after p ticks exactly if its polynomial divides t ** p - 1, which makes it whole.
    if not all([number.den == 1 for number in poly.coefficients]):
        return None
    ticks = 1
    left = poly
    for order in range(1, MOST_ORDER + 1):
        common = Poly.common(left, Poly([-1] + [0] * (order - 1) + [1]))
        if common.degree > 0:
            ticks = lcm(ticks, order)
            left = left // common
    return ticks if left.degree == 0 else None


def come_round(player, knocks):
    """The heard state from which the player, knocked with these knocks, comes back to the same state."""
    check_count(len(knocks), 1, MOST_KNOCKS)
    check_lengths(knocks, player.ears)
    wanted = play(player, player.rest(), knocks).now()
    heard = heard_space(player)
    # What the knocks bring in from rest is what the state loses meanwhile when it is played alone.
    lost = [_difference(row, player.alone(row, len(knocks))) for row in heard]
    # Heard states are equal if they are equal at the pivots.
    rows = [[row[pivot] for row in lost] for pivot in heard.pivots]
    weights = solution(rows, [wanted[pivot] for pivot in heard.pivots], len(heard))
    return [dot(weights, [row[cell] for row in heard]) for cell in range(player.cells)]


def _least_poly(player, state):
    """The polynomial of the least degree, with the last coefficient 1, at which the tick takes the state to rest."""
    states = [fracs_of(state)]
    for _ in range(player.cells):
        states.append(player.alone(states[-1], 1))
    rows = [[numbers[cell] for numbers in states] for cell in range(player.cells)]
    return Poly(kernel_rows(rows, len(states))[0])


def _difference(first, second):
    return [x - y for x, y in zip(first, second)]
