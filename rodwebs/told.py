"""What is told of the inside by what is heard."""

from rodwebs.checks import check_count, check_length
from rodwebs.errors import BadCount
from rodwebs.fracs import Frac, dot, fracs_of
from rodwebs.heardparts import group_of, heard_rows, told_by_ticks, unheard
from rodwebs.papers import Ghost, Told
from rodwebs.players import MOST_TICKS
from rodwebs.rows import solution


def told_space(player, ticks, *, ears=None):
    """The Space of the measures that a group tells in so many ticks."""
    check_count(ticks, 0, MOST_TICKS)
    return told_by_ticks(player, group_of(player, ears), ticks)[-1]


def tell(player, measure, ticks, *, ears=None):
    """A paper that says whether a group tells a measure in so many ticks: Told or Ghost."""
    check_length(measure, player.cells)
    check_count(ticks, 0, MOST_TICKS)
    group = group_of(player, ears)
    given = fracs_of(measure)
    for state in unheard(player, ticks, ears=group):
        if dot(given, state) != 0:
            return Ghost(player, given, group, ticks, state)
    return Told(player, given, group, _weights(player, given, ticks, group))


def least_tick(player, measure, *, ears=None):
    """The least number of ticks in which a group tells a measure, or None if it never does."""
    check_length(measure, player.cells)
    group = group_of(player, ears)
    for ticks, space in enumerate(told_by_ticks(player, group, player.cells)):
        if measure in space:
            return ticks
    return None


def together(player, ticks, *groups):
    """The Space of the measures that the ears of all these groups tell, put together."""
    spaces = _told_by_each(player, ticks, groups)
    # What is heard by ears of several groups is a sum of what is heard by those of each.
    out = spaces[0]
    for space in spaces:
        out = out | space
    return out


def in_common(player, ticks, *groups):
    """The Space of the measures that each of these groups tells by itself."""
    spaces = _told_by_each(player, ticks, groups)
    out = spaces[0]
    for space in spaces:
        out = out & space
    return out


def fewest_ears(player):
    """The smallest group that tells every measure, or None if not even all ears do."""
    for size in range(player.ears + 1):
        for group in _groups(0, player.ears, size):
            if len(told_by_ticks(player, group, player.cells)[-1]) == player.cells:
                return group
    return None


def _weights(player, measure, ticks, group):
    """Weights, one list for each tick, with which the ears of a group tell a measure that they do tell."""
    # What is told at all is told in as many ticks as there are cells.
    heard = heard_rows(player, group, min(int(ticks), int(player.cells)))
    found = solution([[row[cell] for row in heard] for cell in range(player.cells)], measure, len(heard))
    found.extend([Frac(0)] * (ticks * len(group) - len(heard)))
    return [found[tick * len(group):(tick + 1) * len(group)] for tick in range(ticks)]


def _told_by_each(player, ticks, groups):
    check_count(ticks, 0, MOST_TICKS)
    if not groups:
        raise BadCount(0)
    checked = [group_of(player, ears) for ears in groups]
    return [told_by_ticks(player, group, ticks)[-1] for group in checked]


def _groups(first, count, size):
    """The groups of so many ears from the first one on, as ascending tuples in lexicographic order."""
    if size == 0:
        return [()]
    return [(ear, *rest) for ear in range(first, count) for rest in _groups(ear + 1, count, size - 1)]
