"""What all players have in common."""

from rodwebs.checks import check_count, check_length
from rodwebs.fracs import Frac, dot, fracs_of
from rodwebs.tables import Table

MOST_TICKS = 200


class Player:
    """The base class of all that can be knocked and heard.

    Each heir has the methods tick, back and product of its own.
    """

    def __init__(self, cells, strengths):
        self.cells = cells
        self.strengths = tuple(fracs_of(strengths))
        self.ears = len(self.strengths)

    def rest(self):
        """The state in which all cells are 0."""
        return [Frac(0) for _ in range(self.cells)]

    def energy(self, state):
        """The product of a state with itself."""
        return self.product(state, state)

    def form(self):
        """The table of the products of the states with a single 1."""
        units = Table.unit(self.cells).rows
        return Table([[self.product(one, other) for other in units] for one in units], width=self.cells)

    def tick_tables(self):
        """The four tables of a tick: from the state and from the knocks to the new state, then to what is heard."""
        inside = [self.tick(state, [0] * self.ears) for state in Table.unit(self.cells)]
        outside = [self.tick(self.rest(), knocks) for knocks in Table.unit(self.ears)]
        return (
            _of_columns([new for new, _ in inside], self.cells), _of_columns([new for new, _ in outside], self.cells),
            _of_columns([heard for _, heard in inside], self.ears),
            _of_columns([heard for _, heard in outside], self.ears),
        )

    def ear_energy(self, numbers):
        """The energy of one number for each ear."""
        check_length(numbers, self.ears)
        given = fracs_of(numbers)
        return dot(self.strengths, [number * number for number in given])

    def alone(self, state, ticks):
        """The state after so many ticks in which all knocks are 0."""
        check_length(state, self.cells)
        check_count(ticks, 0, MOST_TICKS)
        now = fracs_of(state)
        silence = [Frac(0)] * self.ears
        for _ in range(ticks):
            now = self.tick(now, silence)[0]
        return now


def _of_columns(columns, height):
    return Table(columns, width=height).transposed()
