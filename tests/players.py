"""Players of several kinds for tests."""

from fractions import Fraction

from rodwebs.cores import Core
from rodwebs.fracs import Frac
from rodwebs.linked import Linked
from rodwebs.piles import Pile
from rodwebs.runs import play
from rodwebs.webs import Web
from tests.helpers import exact, frac, fracs, some_strength
from tests.told import ToldWeb, some_pile, some_state, some_told, told_webs

HALF = Fraction(1, 2)
# Two ears, silent states, a twisted rod, a loop and both kinds of joints.
TOLD = ToldWeb(["level", "stream", "level"],
               [(0, 1, 1, Fraction(2), 1), (0, 1, 1, HALF, 1), (1, 1, 1, Fraction(3), -1), (1, 2, 1, Fraction(1), -1)],
               [(0, Fraction(3)), (2, HALF)])


def web_of(told):
    return Web(*told.passed())


def pile_of_told(told):
    return Pile(fracs(told.panes), end=told.end, strength=frac(told.strength))


def some_players(draw, count=6):
    """Webs, cores of webs and piles, each with at least one cell or ear, and such without cells or ears."""
    for told in told_webs(draw, count):
        web = web_of(told)
        yield web
        if told.cells <= 12:
            yield Core.of(web)
    for panes in (0, 1, 3, 6):
        pile = pile_of_told(some_pile(draw, panes, 5))
        yield pile
        yield Core.of(pile)
    yield from some_linked(draw)


def some_linked(draw):
    """Linked players: without links, of different kinds of players, with a link of a player with itself, nested."""
    strength = some_strength(draw)
    first = some_told(draw, 3, 2, 3, 1)
    first.ears = [(joint, strength) for joint, _ in first.ears]
    web = web_of(first)
    pile = Pile([frac(Fraction(1, 3)), 0], end=draw.choice([1, -1]), strength=frac(strength))
    yield Linked([pile], [])
    yield Linked([Web(["level"]), pile, web], [(0, 2, 1, -1)])
    inner = Linked([web], [(2, 0, 2)])
    yield inner
    yield Linked([Core.of(pile), inner], [(1, 0, 1, 1)])


def brought(player, knocks):
    """The state to which knocks bring a player from rest."""
    return play(player, player.rest(), knocks).now()


def some_knocks(draw, player, ticks):
    return [fracs(some_state(draw, player.ears)) for _ in range(ticks)]


class Leads:
    """Assertions about leads for test cases that look, too."""

    def leads(self, draw, lead, first, second, ticks=3):
        """A lead from the one player to the other one, as it goes along with some played ticks."""
        self.assertEqual(type(lead).__name__, "Lead")
        self.assertIs(lead.first, first)
        self.assertIs(lead.second, second)
        self.assertEqual((lead.table.height, lead.table.width), (lead.second.cells, first.cells))
        knocks = some_knocks(draw, first, ticks)
        ahead = play(first, fracs(some_state(draw, first.cells)), knocks)
        beside = play(lead.second, lead(ahead.begin()), knocks)
        self.assertEqual(beside.heard_lists(), ahead.heard_lists())
        self.assertEqual(list(beside.states()), [lead(state) for state in ahead.states()])


def units(count):
    return [[Frac(int(k == place)) for k in range(count)] for place in range(count)]


def inner(player, first, second):
    """The product of two states by the table of products, in Fractions."""
    form = exact(list(player.form()))
    return sum((x * z * y for x, row in zip(exact(first), form) for z, y in zip(row, exact(second))), Fraction(0))


def loudness(strengths, numbers):
    """The energy of lists of knocks or heard numbers, in Fractions."""
    return sum((z * x * x for row in exact(numbers) for z, x in zip(exact(strengths), row)), Fraction(0))
