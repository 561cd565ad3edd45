"""Echoes and sounds added up, where each later tick counts for less."""

from rodwebs.checks import check_length
from rodwebs.errors import BadDiscount
from rodwebs.fracs import Frac
from rodwebs.joints import scatter
from rodwebs.tables import Table


def discounted(player, value):
    """The discounted echo table of a player."""
    _check_value(value)
    a, b, c, d = player.tick_tables()
    return d + c * _endless_sum(a, value) * b * value


def discounted_at_rest(web, value):
    """The discounted echo table of a web, found by its equations at rest."""
    _check_value(value)
    arms = [arm for joint in range(len(web.joints)) for arm in web.arms(joint)]
    scattered = _scatter_table(web, arms)
    travel = Table([[_travelled(web, value, to, start) for start in arms] for to in arms], width=len(arms))
    knocked = Table([[1 if arm == ("ear", ear) else 0 for ear in range(web.ears)] for arm in arms], width=web.ears)
    # What leaves is what scatters of all that arrives: of what left elsewhere and of what is knocked.
    leaving = (Table.unit(len(arms)) - scattered * travel).inverse() * scattered * knocked
    return knocked.transposed() * leaving


def discounted_start(player, state, value):
    """The discounted sound of a state, one number for each ear."""
    check_length(state, player.cells)
    _check_value(value)
    a, _, c, _ = player.tick_tables()
    endless = _endless_sum(a, value)
    return c(endless(state))


def _check_value(value):
    if not -1 < value < 1:
        raise BadDiscount(value)


def _endless_sum(a, value):
    """The endless sum of the powers of a table times the powers of the value."""
    return (Table.unit(a.width) - a * value).inverse()


def _scatter_table(web, arms):
    """The table that tells what leaves at each arm of what arrives at each arm."""
    rows = {}
    for joint, kind in enumerate(web.joints):
        own = web.arms(joint)
        units = [scatter(kind, web.arm_strengths[joint], numbers) for numbers in Table.unit(len(own))]
        for place, arm in enumerate(own):
            rows[arm] = {came: numbers[place] for came, numbers in zip(own, units)}
    return Table([[rows[arm].get(came, 0) for came in arms] for arm in arms], width=len(arms))


def _travelled(web, value, to, start):
    """What arrives at an arm, at rest, of the number 1 that leaves at another one."""
    ends = (to[0], start[0])
    if to[1] != start[1] or ends not in (("start", "end"), ("end", "start")):
        return 0
    _, _, length, _, twist = web.rods[to[1]]
    worth = Frac(twist)
    for _ in range(length):
        worth = worth * value
    return worth
