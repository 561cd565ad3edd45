"""Whole runs, and the echoes of players."""

from rodwebs.checks import check_count, check_ear, check_length, check_lengths, check_squares
from rodwebs.errors import NotAWeb
from rodwebs.fracs import dot, fracs_of
from rodwebs.records import Record
from rodwebs.tables import Table
from rodwebs.webs import Web

MOST_ECHOES = 200


def play(player, start, knocks):
    """The Record of a player from a start, with a tick for each entry of the list of knocks."""
    _check_run(player, start, knocks)
    record = Record(player, start)
    for numbers in knocks:
        record.step(numbers)
    return record


def echoes(player, count):
    """The list of the first so many echo tables."""
    check_count(count, 0, MOST_ECHOES)
    columns = [_heard_of_knock(player, count, ear) for ear in range(player.ears)]
    return [_table_at(columns, tick) for tick in range(count)]


def echo(player, count, *, heard=0, knocked=0):
    """The list of one entry of the first so many echo tables."""
    check_count(count, 0, MOST_ECHOES)
    check_ear(heard, player.ears)
    check_ear(knocked, player.ears)
    return [numbers[heard] for numbers in _heard_of_knock(player, count, knocked)]


def sounded(echoes, knocks):
    """What is heard from rest by a player with these echo tables."""
    check_squares(echoes)
    check_count(len(knocks), 0, len(echoes))
    size = echoes[0].width if echoes else 0
    check_lengths(knocks, size)
    # The entry of the last tick stands first, as the table of tick 0 belongs to it.
    given = []
    out = []
    rows = [[number for table in echoes for number in table.rows[ear]] for ear in range(size)]
    for numbers in knocks:
        given = fracs_of(numbers) + given
        out.append([dot(row[:len(given)], given) for row in rows])
    return out


def play_back(player, end, heard):
    """The Record of a player that ends in a state and in which these numbers are heard."""
    _check_run(player, end, heard)
    state = fracs_of(end)
    knocks = []
    for numbers in heard[::-1]:
        state, given = player.back(state, numbers)
        knocks.append(given)
    return play(player, state, knocks[::-1])


def mirrored(record):
    """The Record that runs the other way: from the flip of the last state to the flip of the first one."""
    web = record.player
    if not isinstance(web, Web):
        raise NotAWeb()
    return play(web, web.flip(record.now()), record.heard_lists()[::-1])


def _check_run(player, state, lists):
    check_length(state, player.cells)
    check_count(len(lists), 0, Record.MOST_TICKS)
    check_lengths(lists, player.ears)


def _heard_of_knock(player, count, ear):
    """What is heard in so many ticks if a player at rest is knocked with 1 by this ear."""
    state = player.rest()
    knocks = [1 if other == ear else 0 for other in range(player.ears)]
    out = []
    for _ in range(count):
        state, heard = player.tick(state, knocks)
        out.append(heard)
        knocks = [0] * player.ears
    return out


def _table_at(columns, tick):
    return Table([column[tick] for column in columns]).transposed()
