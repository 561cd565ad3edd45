"""Runs of players, tick by tick."""

from rodwebs.checks import check_length, check_lengths
from rodwebs.errors import BadPlace, Full, NothingToUndo
from rodwebs.fracs import Frac, fracs_of


class Record:
    """A run of a player from a state: an object that changes."""

    MOST_TICKS = 200

    def __init__(self, player, start):
        check_length(start, player.cells)
        self.player = player
        # The state before the first tick, and the one behind each tick.
        self.past = [tuple(fracs_of(start))]
        self.done = []

    def __len__(self):
        return len(self.done)

    def __iter__(self):
        return iter(self.done)

    def __getitem__(self, at):
        if not 0 <= at < len(self.done):
            raise BadPlace(at)
        return self.done[at]

    def __iadd__(self, other):
        if len(self.done) + len(other) > Record.MOST_TICKS:
            raise Full()
        check_lengths(other, self.player.ears)
        for knocks in list(other):
            self._add_tick(knocks)
        return self

    @property
    def energy_in(self):
        """The energy knocked in all ticks."""
        return sum([self.player.ear_energy(knocks) for knocks, _ in self.done], start=Frac(0))

    @property
    def energy_out(self):
        """The energy heard in all ticks."""
        return sum([self.player.ear_energy(heard) for _, heard in self.done], start=Frac(0))

    @property
    def energy_left(self):
        """The energy of the state behind the last tick."""
        return self.player.energy(self.past[-1])

    def begin(self):
        """The state before the first tick."""
        return list(self.past[0])

    def now(self):
        """The state behind the last tick."""
        return list(self.past[-1])

    def states(self):
        """Yields the state before the first tick, and then the one behind each tick."""
        for state in self.past:
            yield list(state)

    def knock_lists(self):
        """The knocks of all ticks."""
        return [list(knocks) for knocks, _ in self.done]

    def heard_lists(self):
        """The heard numbers of all ticks."""
        return [list(heard) for _, heard in self.done]

    def step(self, knocks):
        """Plays one more tick; the list of the heard numbers."""
        if len(self.done) == Record.MOST_TICKS:
            raise Full()
        check_length(knocks, self.player.ears)
        return self._add_tick(knocks)

    def undo(self):
        """Takes the last tick back; its knocks and its heard numbers."""
        if not self.done:
            raise NothingToUndo()
        self.past.pop()
        return self.done.pop()

    def _add_tick(self, knocks):
        new, heard = self.player.tick(self.past[-1], knocks)
        self.past.append(tuple(new))
        self.done.append((tuple(fracs_of(knocks)), tuple(heard)))
        return heard
