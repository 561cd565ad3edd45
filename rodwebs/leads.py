"""Leads: tables that go along with every tick from one player to another one."""

from rodwebs.checks import check_agreeing
from rodwebs.errors import Mismatch, NotAlong
from rodwebs.fracs import Frac
from rodwebs.tables import Table


class Lead:
    """A lead from a first to a second player."""

    def __init__(self, first, second, table):
        check_agreeing(first, second)
        if table.height != second.cells or table.width != first.cells:
            raise Mismatch()
        self.first = first
        self.second = second
        self.table = table
        _check_along(self)

    def __call__(self, state):
        return self.table(state)

    @staticmethod
    def same(player):
        """The lead from a player to itself that keeps each state."""
        return Lead(player, player, Table.unit(player.cells))

    def then(self, other):
        """The lead that applies this lead and then the other one."""
        check_agreeing(self.second, other.first)
        if self.second.cells != other.first.cells:
            raise Mismatch()
        return Lead(self.first, other.second, other.table * self.table)

    def back(self):
        """The lead from the second to the first player that makes the same products."""
        table = self.first.form().inverse() * self.table.transposed() * self.second.form()
        return Lead(self.second, self.first, table)


def _check_along(lead):
    """NotAlong(state, knocks) if there is a tick with which the table does not go along."""
    player = lead.first
    # Ticks are linear, so it is enough to look at each single cell and each single ear.
    silence = (Frac(0),) * player.ears
    starts = [(state, silence) for state in Table.unit(player.cells)]
    starts.extend([(tuple(player.rest()), knocks) for knocks in Table.unit(player.ears)])
    for state, knocks in starts:
        new, heard = player.tick(state, knocks)
        if lead.second.tick(lead.table(state), knocks) != (lead.table(new), heard):
            raise NotAlong(state, knocks)
