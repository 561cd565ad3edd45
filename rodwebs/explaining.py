"""States that explain what was heard."""

from rodwebs.checks import check_count, check_length, check_lengths
from rodwebs.errors import Barred
from rodwebs.heardparts import heard_rows
from rodwebs.papers import Explained, Unexplained
from rodwebs.runs import play
from rodwebs.solving import least_solution
from rodwebs.tables import Table

MOST_TICKS = 24


def explanation(player, heard, *, knocks=None):
    """A paper that says whether some state explains what was heard: Explained or Unexplained."""
    check_count(len(heard), 0, MOST_TICKS)
    check_lengths(heard, player.ears)
    given = [[0] * player.ears for _ in heard] if knocks is None else knocks
    check_length(given, len(heard))
    check_lengths(given, player.ears)
    rows = heard_rows(player, tuple(range(player.ears)), len(heard))
    try:
        state = least_solution(Table(rows, width=player.cells), _left(player, heard, given), player.form())
    except Barred as bar:
        return Unexplained(player, heard, given, _by_ticks(bar.weights, player.ears, len(heard)))
    return Explained(player, heard, given, state)


def _left(player, heard, knocks):
    """The heard numbers minus those that are heard from rest with the same knocks, as one list."""
    sounds = play(player, player.rest(), knocks).heard_lists()
    return [number - known for numbers, told in zip(heard, sounds) for number, known in zip(numbers, told)]


def _by_ticks(numbers, ears, ticks):
    return [numbers[tick * ears:(tick + 1) * ears] for tick in range(ticks)]
