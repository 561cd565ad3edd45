"""Piles peeled from their first echoes."""

from rodwebs.checks import check_count
from rodwebs.errors import BadCount, NoEcho
from rodwebs.fracs import Frac, fracs_of
from rodwebs.papers import Begins, Louder
from rodwebs.piles import Pile, is_pane
from rodwebs.runs import echo
from rodwebs.solving import below
from rodwebs.tables import Table
from rodwebs.tellback import inside_table

MOST_NUMBERS = 100
MOST_BEGUN = 24


def peel(numbers):
    """The panes and the end that follow from a list of first echoes; None for an end that is not reached."""
    check_count(len(numbers), 0, MOST_NUMBERS)
    panes, end, _, _ = _peeled(fracs_of(numbers), len(numbers))
    return tuple(panes), end


def pile_of(player):
    """The pile that is alike to a player with one ear."""
    if player.ears != 1:
        raise BadCount(player.ears)
    # A pile with as many panes as the player has cells shows its end in the echo behind them.
    panes, end = peel(echo(player, player.cells + 1))
    return Pile(panes, end=end, strength=player.strengths[0])


def begins(numbers):
    """A paper that says whether the numbers begin echoes: Begins or Louder."""
    check_count(len(numbers), 0, MOST_BEGUN)
    try:
        panes, end = peel(numbers)
    except NoEcho:
        inside = inside_table([1], [Table([[number]]) for number in numbers])
        return Louder(numbers, below(inside))
    return Begins(numbers, Pile(panes, end=end or 1))


def next_stretch(numbers):
    """The least and the greatest echo that can follow the numbers."""
    check_count(len(numbers), 0, MOST_NUMBERS)
    # A further echo only adds itself to the last number of the top that is left if it is 0.
    panes, end, top, bottom = _peeled(fracs_of(numbers) + [Frac(0)], len(numbers))
    if end is None:
        return -bottom[0] - top[0], bottom[0] - top[0]
    last = end * bottom[-1] - top[-1]
    return last, last


def _peeled(numbers, count):
    """The panes and the end that the first so many numbers tell, and two lists of coefficients.

    The quotient of the two lists, as power series, is the echoes of the pile that is left behind the panes.
    """
    top = list(numbers)
    bottom = [Frac(1)] + [Frac(0)] * (len(numbers) - 1)
    panes = []
    while len(panes) < count:
        pane = top[0].over(bottom[0])
        if not is_pane(pane):
            return panes, _end_of(pane, top, bottom, count - len(panes), len(panes)), top, bottom
        panes.append(pane)
        less = [x - pane * y for x, y in zip(top, bottom)]
        bottom = [y - pane * x for x, y in zip(top, bottom)][:-1]
        top = less[1:]
    return panes, None, top, bottom


def _end_of(pane, top, bottom, count, index):
    """The end of a pile without panes that has the quotient of top and bottom as its first so many echoes."""
    if abs(pane) != 1:
        raise NoEcho(index)
    for k in range(count):
        if top[k] != pane * bottom[k]:
            raise NoEcho(index + k)
    return pane.num
