"""Piles: straight players with one ear."""

from rodwebs.checks import check_count, check_length, check_strength
from rodwebs.errors import BadEnd, BadPane, TooLarge
from rodwebs.fracs import Frac, dot, fracs_of
from rodwebs.players import MOST_TICKS, Player
from rodwebs.polys import Poly
from rodwebs.ratios import Ratio
from rodwebs.webs import Web

MOST_PANES = 24
MOST_AS_WEB = 7
MOST_TIMES = 12


class Pile(Player):
    """A player that consists of panes, one behind another, and an end."""

    def __init__(self, panes, *, end=1, strength=1):
        check_count(len(panes), 0, MOST_PANES)
        for index, pane in enumerate(panes):
            if not is_pane(pane):
                raise BadPane(index)
        check_end(end)
        check_strength(strength)
        Player.__init__(self, len(panes), [strength])
        self.panes = tuple(fracs_of(panes))
        self.end = end
        self.cell_strengths = _cell_strengths(self.panes, self.strengths[0])

    def __len__(self):
        return len(self.panes)

    def __iter__(self):
        return iter(self.panes)

    def __eq__(self, other):
        if not isinstance(other, Pile):
            return NotImplemented
        return self.panes == other.panes and self.end == other.end and self.strengths == other.strengths

    def tick(self, state, knocks):
        """The new state and the heard numbers of one tick."""
        check_length(state, self.cells)
        check_length(knocks, 1)
        inward = Frac.of(knocks[0])
        outward = []
        for pane, number in zip(self.panes, fracs_of(state)):
            outward.append(pane * inward + (1 - pane) * number)
            inward = (1 + pane) * inward - pane * number
        outward.append(self.end * inward)
        return outward[1:], outward[:1]

    def back(self, state, heard):
        """The old state and the knocks of the tick that leads to this state and makes these numbers heard."""
        check_length(state, self.cells)
        check_length(heard, 1)
        outward = fracs_of(heard) + fracs_of(state)
        inward = self.end * outward[-1]
        old = []
        # What a pane does is undone by what it does with its two sides exchanged.
        for pane, number in zip(self.panes[::-1], outward[:-1][::-1]):
            old.append((1 + pane) * number - pane * inward)
            inward = pane * number + (1 - pane) * inward
        return old[::-1], [inward]

    def product(self, first, second):
        """The product of two states."""
        check_length(first, self.cells)
        check_length(second, self.cells)
        weighted = [strength * number for strength, number in zip(self.cell_strengths, first)]
        return dot(weighted, fracs_of(second))

    def echo(self, count):
        """The list of the first so many echoes."""
        check_count(count, 0, MOST_TICKS)
        state = self.rest()
        knocks = [1]
        out = []
        for _ in range(count):
            state, heard = self.tick(state, knocks)
            out.extend(heard)
            knocks = [0]
        return out

    def ratio(self):
        """The quotient of the pile."""
        delay = Poly([0, 1])
        top = Poly([self.end])
        bottom = Poly([1])
        for pane in self.panes[::-1]:
            late = delay * top
            top, bottom = pane * bottom + late, bottom + pane * late
        return Ratio(top, bottom)

    def as_web(self):
        """The web with a rod of length 1 for each pane, one behind another."""
        if len(self.panes) > MOST_AS_WEB:
            raise TooLarge(2 * len(self.panes))
        end = "level" if self.end == 1 else "stream"
        return Web.line(self.cell_strengths, ear=self.strengths[0], end=end)

    def behind(self, pane):
        """The pile with one more pane ahead of all others."""
        return Pile([pane, *self.panes], end=self.end, strength=self.strengths[0])

    def negated(self):
        """The pile with the negatives of all panes and of the end."""
        return Pile([-pane for pane in self.panes], end=-self.end, strength=self.strengths[0])

    def with_end(self, end):
        """The pile with another end."""
        return Pile(self.panes, end=end, strength=self.strengths[0])

    def spread(self, times):
        """The pile with times - 1 panes 0 behind each pane."""
        check_count(times, 1, MOST_TIMES)
        panes = [number for pane in self.panes for number in [pane] + [0] * (times - 1)]
        return Pile(panes, end=self.end, strength=self.strengths[0])

    def re_eared(self, strength):
        """The pile that belongs to the same web with another strength of the ear."""
        check_strength(strength)
        old = self.strengths[0]
        step = (strength - old).over(strength + old)
        panes = [(step + pane).over(1 + step * pane) for pane in self.panes[:1]]
        return Pile([*panes, *self.panes[1:]], end=self.end, strength=strength)


def is_pane(number):
    """Whether a number is between -1 and 1, both excluded."""
    return -1 < number < 1


def check_end(end):
    """BadEnd(end) if it is not 1 or -1."""
    if end not in (1, -1):
        raise BadEnd(end)


def _cell_strengths(panes, strength):
    out = []
    for pane in panes:
        strength = strength * (1 - pane).over(1 + pane)
        out.append(strength)
    return tuple(out)
