"""Silent and heard states."""

from rodwebs.checks import check_count, check_ear, check_length
from rodwebs.cores import Core
from rodwebs.errors import BadOrder
from rodwebs.leads import Lead
from rodwebs.players import MOST_TICKS
from rodwebs.rows import kernel_rows
from rodwebs.spaces import Space, grown
from rodwebs.tables import Table


def unheard(player, ticks, *, ears=None):
    """The Space of the states that are unheard by a group for so many ticks."""
    check_count(ticks, 0, MOST_TICKS)
    group = group_of(player, ears)
    told = told_by_ticks(player, group, ticks)[-1]
    rows = kernel_rows(told.basis, player.cells)
    return Space(player.cells, *rows)


def silent(player, *, ears=None):
    """The Space of the states that are unheard by a group for ever."""
    return unheard(player, player.cells, ears=ears)


def heard_space(player):
    """The Space of the heard states."""
    return silent(player).across(player.form())


def parted(player, state):
    """The silent and the heard part of a state."""
    check_length(state, player.cells)
    return silent(player).parts(state, player.form())


def heard_part(player):
    """A Lead to a Core that has only heard states, as many cells as the heard size."""
    heard = heard_space(player)
    a, b, c, d = player.tick_tables()
    wide = Table(heard.basis, width=player.cells)
    bent = wide * player.form()
    form = bent * wide.transposed()
    # What stands at the pivots of a heard state are its weights in the basis.
    moved = [a(row) for row in heard.basis]
    core = Core(
        Table([[row[pivot] for row in moved] for pivot in heard.pivots], width=len(heard)),
        Table([b.rows[pivot] for pivot in heard.pivots], width=player.ears),
        c * wide.transposed(), d, form=form, strengths=player.strengths,
    )
    return Lead(player, core, form.inverse() * bent)


def group_of(player, ears):
    """The tuple of the ears of a group."""
    if ears is None:
        return tuple(range(player.ears))
    for ear in ears:
        check_ear(ear, player.ears)
    if len(set(ears)) != len(ears):
        raise BadOrder()
    return tuple(ears)


def told_by_ticks(player, group, ticks):
    """The list of the Spaces of the measures that these ears tell in each number of ticks from 0 on."""
    a, _, c, _ = player.tick_tables()
    return grown([c.rows[ear] for ear in group], a.transposed(), ticks)


def heard_rows(player, group, ticks):
    """The list of the measures of what these ears hear when the player is played alone, tick by tick, ear by ear."""
    a, _, c, _ = player.tick_tables()
    onward = a.transposed()
    now = [c.rows[ear] for ear in group]
    out = []
    for _ in range(ticks):
        out.extend(now)
        now = [tuple(onward(row)) for row in now]
    return out
