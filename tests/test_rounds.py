"""Point 107, with points 25 and 36: period and come_round."""

import unittest
from math import lcm

from rodwebs.cores import Core
from rodwebs.errors import BadCount, BadSizes
from rodwebs.fracs import Frac
from rodwebs.heardparts import heard_space, silent
from rodwebs.linked import Linked
from rodwebs.peeling import pile_of
from rodwebs.piles import Pile
from rodwebs.rounds import come_round, period
from rodwebs.runs import play
from rodwebs.tables import Table
from rodwebs.webs import Web
from tests.helpers import Looks, exact, fracs, source
from tests.players import TOLD, loudness, some_knocks, some_players, units, web_of
from tests.told import some_state

WEB = web_of(TOLD)
HALF = Frac(1, 2)
TWO = Web(["level", "level", "level"], [(0, 1, 1, 1), (0, 2, 1, 1)], [(0, 1)])


def silence(player, ticks):
    return [[0] * player.ears] * ticks


def least_period(player, state, most):
    """The least number of ticks, up to the most, after which the state is there again, by trying; None if none is."""
    now = fracs(exact(state))
    for tick in range(1, most + 1):
        now = player.tick(now, [0] * player.ears)[0]
        if exact(now) == exact(state):
            return tick
    return None


def ring(order, poly):
    """A core without ears that comes round in so many ticks, with the sum of the products over a round as its product.

    The poly is a list of integers, the constant first and without the last coefficient 1: at its table it gives zeros.
    """
    size = len(poly)
    rows = [[int(col == row - 1) for col in range(size - 1)] + [-number] for row, number in enumerate(poly)]
    form, states = Table.zero(size, size), Table.unit(size)
    for _ in range(order):
        form, states = form + states.transposed() * states, Table(rows) * states
    none = Table([], width=size)
    return Core(Table(rows), none.transposed(), none, Table([]), form=form, strengths=[])


class Periods(Looks, unittest.TestCase):
    def test_short(self):
        draw = source(1070)
        seen = {}
        for player in [WEB, TWO, *some_players(draw, 12)]:
            hidden = list(silent(player))
            states = [player.rest(), *hidden, *units(player.cells)[:2], fracs(some_state(draw, player.cells))]
            if len(hidden) > 1:
                states.append([x - 2 * y for x, y in zip(hidden[0], hidden[1])])
            for state in states:
                given = period(player, tuple(state))
                if given is None:
                    self.assertIsNone(least_period(player, state, 60))
                elif given <= 60:
                    self.assertEqual(given, least_period(player, state, 60))
                if state not in silent(player):
                    self.assertIsNone(given)
                if given is not None:
                    self.assertIs(type(given), int)
                seen[given] = seen.get(given, 0) + 1
        self.assertGreater(seen[None], 20)
        self.assertGreater(len(seen), 5)

    def test_rest(self):
        for player in (Web(), WEB, Pile([]), Pile([HALF] * 24), Core.of(TWO), Linked([TWO], [])):
            self.assertEqual(period(player, player.rest()), 1)
            self.assertIs(type(period(player, player.rest())), int)

    def test_known(self):
        self.assertEqual(period(TWO, [1, 0, -1, 0]), 4)
        self.assertEqual(period(TWO, [1, 1, -1, -1]), 4)
        self.assertIsNone(period(TWO, [1, 0, 0, 0]))
        self.assertIsNone(period(TWO, [0, 1, 0, 1]))
        for kinds, twist, wanted in ((["level", "level"], 1, 6), (["level", "stream"], 1, 12),
                                     (["level", "stream"], -1, 12), (["stream", "stream"], 1, 6),
                                     (["stream", "stream"], -1, 6)):
            web = Web(kinds, [(0, 1, 3, 5, twist)])
            self.assertEqual(period(web, [1, 0, 0, 0, 0, 0]), wanted)
        both = Web(["level", "level"], [(0, 1, 3, 5)])
        self.assertEqual(period(both, [1, 2, 3, 1, 2, 3]), 3)
        self.assertEqual(period(both, [1, -1, 1, -1, 1, -1]), 2)
        self.assertEqual(period(both, [7] * 6), 1)
        ring = Web(["level"], [(0, 0, 12, HALF, -1)])
        self.assertEqual(period(ring, units(24)[0]), 24)
        self.assertEqual(period(ring, [1, -1] * 12), 24)
        self.assertEqual(period(ring, [1, 1, 1, 1, -1, -1, -1, -1, 1, 1, 1, 1] + [0] * 12), 8)

    def test_only_after_a_while(self):
        """A state that only comes to rest, or into a round that it did not begin in, does not come again."""
        self.assertIsNone(period(Pile([0] * 5), units(5)[0]))
        self.assertIsNone(period(Pile([0] * 5), units(5)[4]))
        smooth = Web(["level", "level", "level"], [(0, 1, 1, 1), (2, 2, 1, 1)], [(0, 1)])
        self.assertEqual(period(smooth, [0, 0, 1, 0]), 1)
        self.assertIsNone(period(smooth, [1, 0, 1, 0]))

    def test_long(self):
        web = Web(["level", "stream"] * 3, [(0, 1, 5, 1), (2, 3, 4, 2), (4, 5, 3, HALF, -1)])
        start = [0] * 24
        for first in (0, 10, 18):
            start[first] = 1
        self.assertEqual(period(web, start), 240)
        # Orders that belong to polynomials of the degrees 6, 6, 4 and 8.
        core = ring(7, [1, 1, 1, 1, 1, 1]).beside(ring(9, [1, 0, 0, 1, 0, 0]))
        core = core.beside(ring(5, [1, 1, 1, 1])).beside(ring(16, [1, 0, 0, 0, 0, 0, 0, 0]))
        start = [0] * 24
        wanted = 1
        for first, order in ((0, 7), (6, 9), (12, 5), (16, 16)):
            start[first] = 1
            wanted = lcm(wanted, order)
            self.assertEqual(period(core, start), wanted)
        self.assertEqual(wanted, 5040)
        self.assertEqual(exact(core.alone(start, 200)) == exact(start), False)

    def test_greatest_orders(self):
        """Each order from 1 to 90 whose polynomial has a degree up to 24 is found."""
        polys = {}
        for order in range(1, 91):
            left = [-1] + [0] * (order - 1) + [1]
            for other in range(1, order):
                if order % other == 0:
                    left = self.divided(left, polys[other])
            polys[order] = left
        fitting = [order for order in polys if len(polys[order]) <= 25]
        self.assertEqual(fitting[-1], 90)
        for order in (1, 2, 12, 23, 35, 46, 90):
            self.assertIn(order, fitting)
            core = ring(order, polys[order][:-1])
            self.assertEqual(period(core, units(core.cells)[0]), order)

    def divided(self, top, bottom):
        out, rest = [], list(top)
        while len(rest) >= len(bottom):
            out.append(rest[-1])
            shift = len(rest) - len(bottom)
            rest = [x - out[-1] * (bottom[k - shift] if k >= shift else 0) for k, x in enumerate(rest)][:-1]
        self.assertFalse(any(rest))
        return out[::-1]

    def test_never(self):
        """Silent states that turn by an angle that is no part of a whole turn."""
        turn = Table([[Frac(3, 5), Frac(-4, 5)], [Frac(4, 5), Frac(3, 5)]])
        none = Table([], width=2)
        core = Core(turn, none.transposed(), none, Table([]), form=Table.unit(2), strengths=[])
        self.assertIsNone(period(core, [1, 0]))
        self.assertIsNone(period(core, [Frac(-2, 7), 9]))
        self.assertEqual(period(core, [0, 0]), 1)
        self.assertIsNone(period(core.beside(Core.of(TWO)), [1, 0, 1, 0, -1, 0]))
        # Three rods at a joint, of unequal strengths.
        web = Web(["level", "level", "stream", "level"], [(0, 1, 1, 1), (0, 2, 1, 2), (0, 3, 2, 5)])
        self.assertIsNone(period(web, units(8)[0]))
        self.assertIsNone(least_period(web, units(8)[0], 150))

    def test_refused(self):
        for given in (0, 7, 9):
            self.refused(BadSizes, {"given": given, "wanted": 8}, period, WEB, [0] * given)


class Rounds(Looks, unittest.TestCase):
    def looked_at(self, player, knocks):
        given = come_round(player, knocks)
        self.assertIs(type(given), list)
        self.assertEqual(len(given), player.cells)
        self.all_fracs(given)
        self.assertIn(given, heard_space(player))
        record = play(player, given, knocks)
        self.assertEqual(record.now(), given)
        self.assertEqual(loudness(player.strengths, record.heard_lists()), loudness(player.strengths, knocks))
        return given

    def test_rounds(self):
        draw = source(1071)
        for player in [WEB, TWO, *some_players(draw)]:
            for count in (1, 2, 3, 12):
                self.looked_at(player, some_knocks(draw, player, count))

    def test_only_one(self):
        """Heard states that come round with the same knocks are equal, so silent parts make no difference."""
        draw = source(1072)
        for player in [WEB, TWO]:
            for count in (1, 5):
                knocks = some_knocks(draw, player, count)
                given = self.looked_at(player, tuple(map(tuple, knocks)))
                self.assertEqual(self.looked_at(player, knocks * 2), given)
                other = self.looked_at(player, some_knocks(draw, player, count))
                self.assertNotEqual(other, given)

    def test_rest(self):
        for player in (WEB, TWO, Pile([HALF]), Web(), Web(["level", "level"], [(0, 1, 2, 1)])):
            for count in (1, 12):
                self.same(self.looked_at(player, silence(player, count)), [0] * player.cells)

    def test_known(self):
        self.same(come_round(Pile([0, 0, 0]), [[1], [2], [3], [4]]), [2, 3, 4])
        self.same(come_round(Pile([0, 0, 0], end=-1), [[1], [5]]), [-5, -1, -5])
        self.same(come_round(TWO, [[1]]), [1, 1, 1, 1])

    def test_steady_knocks(self):
        """Point 25: one ear hears the end of its pile."""
        draw = source(1073)
        some = 0
        for player in some_players(draw, 30):
            if player.ears == 1:
                pile = pile_of(player)
                steady = play(player, come_round(player, [[1]]), [[1]] * 3)
                self.assertEqual(steady.heard_lists(), [[pile.end]] * 3)
                there = play(player, come_round(player, [[1], [-1]]), [[1], [-1]])
                wanted = pile.end if len(pile) % 2 == 0 else -pile.end
                self.assertEqual(there.heard_lists(), [[wanted], [-wanted]])
                some += 1
        self.assertGreater(some, 15)

    def test_in_their_turn(self):
        """Point 48: what steady or alternating knocks make heard, knocked in its turn, makes them heard."""
        draw = source(1074)
        for player in [WEB, *(player for player in some_players(draw, 20) if isinstance(player, Web))]:
            knocks = some_knocks(draw, player, 1)[0]
            for sign in (1, -1):
                def first(numbers):
                    whole = [numbers, [sign * number for number in numbers]]
                    return play(player, come_round(player, whole), whole).heard_lists()[0]
                self.assertEqual(first(first(knocks)), knocks)

    def test_refused(self):
        for count in (0, 13, 300):
            self.refused(BadCount, {"count": count}, come_round, WEB, [[1, 2, 3]] * count)
        for at in range(3):
            for given in (0, 1, 3):
                knocks = [[1, 2]] * 3
                knocks[at] = [1] * given
                self.refused(BadSizes, {"given": given, "wanted": 2}, come_round, WEB, knocks + [[1] * 7])
        self.refused(BadSizes, {"given": 1, "wanted": 0}, come_round, Web(), [[1]])

    def test_nothing_changes(self):
        knocks = [[1, 2], [3, 4]]
        come_round(WEB, knocks)[0] = 9
        self.assertEqual(knocks, [[1, 2], [3, 4]])
        self.assertEqual(come_round(WEB, knocks), self.looked_at(WEB, knocks))


if __name__ == "__main__":
    unittest.main()
