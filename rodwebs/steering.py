"""States that knocks put inside, and players that are hushed."""

from rodwebs.checks import check_count, check_length
from rodwebs.errors import NotAWeb
from rodwebs.fracs import dot, fracs_of
from rodwebs.papers import Hushed, Steered, Unhushed, Unreached
from rodwebs.rows import solution
from rodwebs.runs import play
from rodwebs.spaces import grown
from rodwebs.webs import Web

MOST_TICKS = 24


def reach(player, ticks):
    """The Space of the states that can be reached in so many ticks."""
    check_count(ticks, 0, MOST_TICKS)
    return _reached_by_ticks(player, ticks)[-1]


def steer(player, wish, ticks):
    """A paper that says whether a wish can be reached in so many ticks: Steered or Unreached."""
    _check_start(player, wish, ticks)
    given = fracs_of(wish)
    bar = _bar(player, given, ticks)
    if bar is not None:
        return Unreached(player, given, ticks, bar)
    return Steered(player, given, _least_knocks(player, given, ticks))


def hush(player, state, ticks):
    """A paper that says whether a player can be hushed from a state in so many ticks: Hushed or Unhushed."""
    _check_start(player, state, ticks)
    left = player.alone(state, ticks)
    bar = _bar(player, left, ticks)
    if bar is not None:
        return Unhushed(player, state, ticks, bar)
    return Hushed(player, state, _least_knocks(player, [-number for number in left], ticks))


def least_hush(player, state):
    """The least number of ticks in which a player can be hushed from a state, or None if it cannot."""
    check_length(state, player.cells)
    for ticks, space in enumerate(_reached_by_ticks(player, player.cells)):
        if player.alone(state, ticks) in space:
            return ticks
    return None


def put_in_unheard(web, wish, ticks):
    """The list of the knocks that put a wish in unheard in so many ticks, or None if no knocks do it."""
    if not isinstance(web, Web):
        raise NotAWeb()
    _check_start(web, wish, ticks)
    # Backward, the knocks are what is heard while the flip of the wish comes to rest.
    record = play(web, web.flip(wish), [[0] * web.ears] * ticks)
    if record.now() != web.rest():
        return None
    return record.heard_lists()[::-1]


def _check_start(player, state, ticks):
    check_length(state, player.cells)
    check_count(ticks, 0, MOST_TICKS)


def _bar(player, wish, ticks):
    """A state with the product 0 with all that can be reached in so many ticks, but not with the wish; or None."""
    for bar in reach(player, ticks).across(player.form()):
        if player.product(bar, wish) != 0:
            return bar
    return None


def _reached_by_ticks(player, ticks):
    """The list of the Spaces of the states that can be reached in each number of ticks from 0 on."""
    a, b, _, _ = player.tick_tables()
    return grown([b.column(ear) for ear in range(player.ears)], a, ticks)


def _least_knocks(player, wish, ticks):
    """The knocks of the least energy, tick by tick, that bring a player from rest to a wish that can be reached."""
    moved = _moved_states(player, ticks)
    sizes = player.strengths * ticks
    # In the least knocks, each knock times its strength is a sum over the cells of the state that a knock of 1 in its
    # place makes, with the same weights in all places: what is left of other knocks moves nothing, but has energy.
    cells = [[state[cell] for state in moved] for cell in range(player.cells)]
    light = [[number.over(size) for number, size in zip(row, sizes)] for row in cells]
    weights = solution([[dot(row, other) for other in light] for row in cells], wish, player.cells)
    knocks = [dot(weights, state).over(size) for state, size in zip(moved, sizes)]
    return [knocks[tick * player.ears:(tick + 1) * player.ears] for tick in range(ticks)]


def _moved_states(player, ticks):
    """The states to which the single knocks of 1 of all ears in all these ticks bring the player from rest."""
    a, b, _, _ = player.tick_tables()
    last = [b.column(ear) for ear in range(player.ears)]
    moved = []
    for _ in range(ticks):
        moved = last + moved
        last = [a(state) for state in last]
    return moved
