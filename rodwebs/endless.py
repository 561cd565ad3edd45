"""What is heard for ever."""

from rodwebs.checks import check_ear, check_length
from rodwebs.errors import Endless, TooLarge
from rodwebs.fracs import Frac, dot
from rodwebs.heardparts import heard_part, heard_space, silent
from rodwebs.rows import solution
from rodwebs.tables import Table

MOST_HEARD = 8


def stay(player, state):
    """The endless sum of the energies of the states when the player is played alone from a heard state."""
    check_length(state, player.cells)
    lead = _small_heard_part(player)
    if state not in heard_space(player):
        raise Endless()
    return _value(_summed(lead.second.a, lead.second.energy_form), lead(state))


def heard_for_ever(player, state, ear):
    """The energy that an ear ever hears when the player is played alone from a state."""
    check_length(state, player.cells)
    check_ear(ear, player.ears)
    lead = _small_heard_part(player)
    return _value(_heard_form(lead.second, ear), lead(state))


def portions(player):
    """The table of the portions of the ears."""
    core = _small_heard_part(player).second
    forms = [_heard_form(core, ear) for ear in range(core.ears)]
    return Table([[_portion(core, forms[b], b, a) for a in range(core.ears)] for b in range(core.ears)])


def _small_heard_part(player):
    size = player.cells - len(silent(player))
    if size > MOST_HEARD:
        raise TooLarge(size)
    return heard_part(player)


def _heard_form(core, ear):
    """The table whose value at a state is the energy that an ear ever hears from it."""
    heard = core.c.rows[ear]
    strength = core.strengths[ear]
    return _summed(core.a, Table([[strength * x * y for y in heard] for x in heard], width=core.cells))


def _portion(core, form, ear, knocked):
    at_once = core.d[ear, knocked]
    energy = core.strengths[ear] * at_once * at_once + _value(form, core.b.column(knocked))
    return energy.over(core.strengths[knocked])


def _value(form, numbers):
    return dot(form(numbers), numbers)


def _summed(a, form):
    """The table whose value at a state is the endless sum of the values of a form at the states that a makes of it."""
    # A tick ahead it has the same value, but for that of the form: these are linear equations for its entries.
    pairs = [(i, j) for j in range(a.width) for i in range(j + 1)]
    rows = [_pair_row(a, pairs, p, q) for p, q in pairs]
    found = solution(rows, [form[pair] for pair in pairs], len(pairs))
    entries = {}
    for (i, j), number in zip(pairs, found):
        entries[i, j] = entries[j, i] = number
    return Table([[entries[i, j] for j in range(a.width)] for i in range(a.width)])


def _pair_row(a, pairs, p, q):
    row = []
    for i, j in pairs:
        number = a[i, p] * a[j, q]
        if i != j:
            number = number + a[j, p] * a[i, q]
        row.append(Frac(1 if (i, j) == (p, q) else 0) - number)
    return row
