"""Point 105, with points 18, 33 and 34: reach, steer, hush, least_hush, put_in_unheard."""

import unittest
from fractions import Fraction

from rodwebs.cores import Core
from rodwebs.errors import BadCount, BadSizes, NotAWeb
from rodwebs.fracs import Frac
from rodwebs.heardparts import heard_space, silent, unheard
from rodwebs.papers import Hushed, Steered, Unhushed, Unreached
from rodwebs.piles import Pile
from rodwebs.runs import play
from rodwebs.spaces import Space
from rodwebs.steering import hush, least_hush, put_in_unheard, reach, steer
from rodwebs.tables import Table
from rodwebs.webs import Web
from tests.helpers import Looks, exact, fracs, rank_of, source
from tests.players import TOLD, brought, inner, loudness, some_knocks, some_players, units, web_of
from tests.told import some_state

WEB = web_of(TOLD)
HALF = Frac(1, 2)
TWO = Web(["level", "level", "level"], [(0, 1, 1, 1), (0, 2, 1, 1)], [(0, 1)])
# The ear is as strong as the rod: what is knocked goes into the rod, and nothing comes back at once.
SMOOTH = Web(["level", "stream"], [(0, 1, 3, 2)], [(0, 2)])


def single_knocks(player, ticks):
    for tick in range(ticks):
        for numbers in units(player.ears):
            yield [numbers if k == tick else [Frac(0)] * player.ears for k in range(ticks)]


def small_players(draw, count=3):
    return [WEB, TWO, *(player for player in some_players(draw, count) if player.cells <= 6)]


def common_energy(player, first, second):
    """The product of two lists of knocks by the strengths of the ears."""
    strengths = exact(player.strengths)
    return sum((z * x * y for one, other in zip(exact(first), exact(second))
                for z, x, y in zip(strengths, one, other)), Fraction(0))


class Reaching(Looks, unittest.TestCase):
    def test_reach(self):
        draw = source(1050)
        for player in small_players(draw):
            for ticks in (0, 1, 3, player.cells + 1):
                given = reach(player, ticks)
                self.assertIs(type(given), Space)
                states = [brought(player, knocks) for knocks in single_knocks(player, ticks)]
                self.assertEqual(given.size, player.cells)
                self.assertEqual(len(given), rank_of(exact(states)))
                for state in states:
                    self.assertIn(state, given)

    def test_all_heard_states(self):
        draw = source(1051)
        for player in small_players(draw):
            self.assertEqual(reach(player, player.cells), heard_space(player))
            self.assertEqual(reach(player, 24), heard_space(player))

    def test_flips(self):
        draw = source(1052)
        for player in small_players(draw):
            if isinstance(player, Web):
                for ticks in (0, 1, 2, 4):
                    across = unheard(player, ticks).across(player.form())
                    flipped = Space(player.cells, *[player.flip(state) for state in across])
                    self.assertEqual(reach(player, ticks), flipped)

    def test_bounds(self):
        self.assertEqual(reach(WEB, 0), Space(8))
        self.assertEqual(reach(Web(), 24), Space(0))
        self.assertEqual(reach(Web(["level", "level"], [(0, 1, 1, 1)]), 24), Space(2))
        for ticks in (-1, 25, 10 ** 30):
            self.refused(BadCount, {"count": ticks}, reach, WEB, ticks)


class Steering(Looks, unittest.TestCase):
    def looked_at(self, player, wish, ticks):
        paper = steer(player, wish, ticks)
        self.assertIs(paper.player, player)
        self.assertIs(type(paper.wish), tuple)
        self.same(paper.wish, exact(wish))
        if type(paper) is Steered:
            self.assertIs(paper.YES, True)
            self.assertEqual([type(part) for part in (paper.knocks, *paper.knocks)], [tuple] * (ticks + 1))
            self.all_fracs(paper.knocks)
            self.same(brought(player, paper.knocks), exact(wish))
        else:
            self.assertIs(type(paper), Unreached)
            self.assertIs(paper.YES, False)
            self.assertEqual((paper.ticks, type(paper.ticks)), (ticks, int))
            self.assertIs(type(paper.bar), tuple)
            self.all_fracs(paper.bar)
            self.assertNotEqual(inner(player, paper.bar, wish), 0)
            for knocks in single_knocks(player, ticks):
                self.assertEqual(inner(player, paper.bar, brought(player, knocks)), 0)
        return paper

    def test_reached(self):
        draw = source(1053)
        for player in small_players(draw):
            for ticks in (0, 1, 3, player.cells + 2):
                other = some_knocks(draw, player, ticks)
                wish = brought(player, other)
                paper = self.looked_at(player, tuple(wish), ticks)
                self.assertIs(type(paper), Steered)
                self.assertLessEqual(loudness(player.strengths, paper.knocks), loudness(player.strengths, other))
                # The knocks of the least energy have the product 0 with all knocks that bring the player to rest.
                rest = [[y - x for x, y in zip(one, more)] for one, more in zip(paper.knocks, other)]
                self.assertEqual(common_energy(player, paper.knocks, rest), 0)
                self.assertFalse(any(brought(player, rest)))

    def test_any(self):
        draw = source(1054)
        seen = {Steered: 0, Unreached: 0}
        for player in small_players(draw):
            for ticks in (0, 1, 2, player.cells):
                for wish in (fracs(some_state(draw, player.cells)), [0] * player.cells):
                    paper = self.looked_at(player, wish, ticks)
                    self.assertEqual(type(paper) is Steered, wish in reach(player, ticks))
                    seen[type(paper)] += 1
        self.assertGreater(min(seen.values()), 10)

    def test_no_ticks(self):
        paper = self.looked_at(WEB, [0] * 8, 0)
        self.assertEqual((type(paper), paper.knocks), (Steered, ()))
        self.assertIs(type(self.looked_at(WEB, [0] * 7 + [1], 0)), Unreached)
        self.assertEqual(steer(Web(), [], 3).knocks, ((), (), ()))

    def test_rest_is_reached_by_nothing(self):
        for player in (WEB, TWO, Pile([HALF, 0])):
            paper = steer(player, player.rest(), 24)
            self.assertFalse(any(number for numbers in paper.knocks for number in numbers))

    def test_many_ticks(self):
        draw = source(1055)
        large = Web(["level"] * 2, [(0, 1, 12, HALF)], [(0, 1), (1, 3)])
        self.looked_at(large, list(range(24)), 24)
        self.looked_at(Core.of(Pile([HALF, Frac(-1, 3), 0])), [1, 2, 3], 24)
        self.assertIs(type(self.looked_at(large, units(24)[5], 6)), Steered)
        self.assertIs(type(self.looked_at(large, fracs(some_state(draw, 24)), 6)), Unreached)

    def test_least_energy_known(self):
        # Two ears at one joint: the knocks are shared out by what they move.
        web = Web(["level", "level"], [(0, 1, 1, 1)], [(0, 1), (0, 2)])
        self.same(steer(web, [3, 0], 1).knocks, [[2, 2]])
        two = Web(["level", "level"], [(0, 1, 1, 1)], [(0, 1)])
        self.same(steer(two, [1, 0], 1).knocks, [[1]])
        self.same(steer(two, [0, 1], 2).knocks, [[1], [0]])
        self.same(steer(two, [1, 1], 3).knocks, [[0], [1], [1]])

    def test_refused(self):
        for call in (steer, hush):
            for given in (0, 7, 9):
                self.refused(BadSizes, {"given": given, "wanted": 8}, call, WEB, [0] * given, 25)
            for ticks in (-1, 25, 10 ** 30):
                self.refused(BadCount, {"count": ticks}, call, WEB, [0] * 8, ticks)
        self.refused(BadSizes, {"given": 9, "wanted": 8}, least_hush, WEB, [0] * 9)

    def test_nothing_changes(self):
        wish = [0] * 8
        papers = [steer(WEB, wish, 1), hush(WEB, wish, 1)]
        wish[0] = 7
        self.same([papers[0].wish, papers[1].state], [[0] * 8] * 2)


class Hushing(Looks, unittest.TestCase):
    def looked_at(self, player, state, ticks):
        paper = hush(player, state, ticks)
        self.assertIs(paper.player, player)
        self.assertIs(type(paper.state), tuple)
        self.same(paper.state, exact(state))
        left = player.alone(state, ticks)
        if type(paper) is Hushed:
            self.assertIs(paper.YES, True)
            self.assertEqual([type(part) for part in (paper.knocks, *paper.knocks)], [tuple] * (ticks + 1))
            self.all_fracs(paper.knocks)
            self.same(play(player, state, paper.knocks).now(), [0] * player.cells)
        else:
            self.assertIs(type(paper), Unhushed)
            self.assertIs(paper.YES, False)
            self.assertEqual((paper.ticks, type(paper.ticks)), (ticks, int))
            self.assertIs(type(paper.bar), tuple)
            self.all_fracs(paper.bar)
            self.assertNotEqual(inner(player, paper.bar, left), 0)
            for knocks in single_knocks(player, ticks):
                self.assertEqual(inner(player, paper.bar, brought(player, knocks)), 0)
        return paper

    def test_any(self):
        draw = source(1056)
        seen = {Hushed: 0, Unhushed: 0}
        for player in small_players(draw):
            hidden = list(silent(player))[:1]
            heard = brought(player, some_knocks(draw, player, 2))
            for state in (heard, fracs(some_state(draw, player.cells)), [0] * player.cells, *hidden):
                least = least_hush(player, state)
                self.assertEqual(least is None, state not in heard_space(player))
                for ticks in range(player.cells + 2):
                    paper = self.looked_at(player, state, ticks)
                    self.assertEqual(type(paper) is Hushed, least is not None and ticks >= least)
                    seen[type(paper)] += 1
                if least is not None:
                    self.assertIs(type(least), int)
                    self.assertLessEqual(least, len(heard_space(player)))
        self.assertGreater(min(seen.values()), 30)

    def test_least_energy(self):
        draw = source(1057)
        for player in small_players(draw):
            ticks = player.cells + 2
            state = brought(player, some_knocks(draw, player, 2))
            paper = self.looked_at(player, state, ticks)
            # Knocks that bring the player from rest to rest have the product 0 with those of the least energy.
            other = some_knocks(draw, player, ticks)
            least = steer(player, brought(player, other), ticks).knocks
            rest = [[y - x for x, y in zip(one, more)] for one, more in zip(least, other)]
            self.assertFalse(any(brought(player, rest)))
            self.assertEqual(common_energy(player, paper.knocks, rest), 0)

    def test_least_hush_known(self):
        self.assertEqual(least_hush(WEB, [0] * 8), 0)
        self.assertEqual(least_hush(Web(), []), 0)
        pile = Pile([0] * 24)
        self.assertEqual(least_hush(pile, units(24)[23]), 24)
        self.assertEqual(least_hush(pile, units(24)[0]), 1)
        self.assertEqual(least_hush(pile, (0,) * 24), 0)
        self.assertEqual([least_hush(Pile([0] * 4), state) for state in units(4)], [1, 2, 3, 4])
        self.assertEqual([least_hush(Pile([0, 0, HALF]), state) for state in units(3)], [1, 2, 3])
        self.assertIsNone(least_hush(TWO, [1, 0, 0, 0]))
        self.assertEqual(least_hush(TWO, [1, 0, 1, 0]), 2)
        self.assertIsNone(least_hush(Web(["level", "level"], [(0, 1, 1, 1)]), [1, 0]))

    def test_no_ticks(self):
        paper = self.looked_at(WEB, (0,) * 8, 0)
        self.assertEqual((type(paper), paper.knocks), (Hushed, ()))
        self.assertIs(type(self.looked_at(WEB, [1] + [0] * 7, 0)), Unhushed)
        self.assertIs(type(self.looked_at(TWO, [1, 0, -1, 0], 24)), Unhushed)

    def test_many_ticks(self):
        large = Web(["level"] * 2, [(0, 1, 12, HALF)], [(0, 1), (1, 3)])
        self.assertIs(type(self.looked_at(large, list(range(24)), 24)), Hushed)
        self.assertIs(type(self.looked_at(large, list(range(24)), 11)), Unhushed)


class Unheard(Looks, unittest.TestCase):
    def looked_at(self, web, wish, ticks):
        """Whether the wish is put in unheard, against all knocks that make nothing heard."""
        given = put_in_unheard(web, wish, ticks)
        columns = [play(web, web.rest(), knocks) for knocks in single_knocks(web, ticks)]
        heard = Table([[x for row in record.heard_lists() for x in row] for record in columns],
                      width=ticks * web.ears).transposed()
        states = Table([record.now() for record in columns], width=web.cells).transposed()
        possible = list(wish) in Space.kernel(heard).image(states)
        self.assertEqual(given is not None, possible)
        if given is not None:
            self.assertIs(type(given), list)
            self.assertEqual([type(numbers) for numbers in given], [list] * ticks)
            self.all_fracs(given)
            record = play(web, web.rest(), given)
            self.same(record.now(), exact(wish))
            self.assertFalse(any(number for numbers in record.heard_lists() for number in numbers))
        return given

    def test_smooth(self):
        self.same(self.looked_at(SMOOTH, [5, 0, 0, 0, 0, 0], 1), [[5]])
        self.same(self.looked_at(SMOOTH, (1, 2, Frac(7, 2), 0, 0, 0), 3), [[Fraction(7, 2)], [2], [1]])
        self.same(self.looked_at(SMOOTH, [0, 1, 0, 0, 0, 0], 3), [[0], [1], [0]])
        self.same(self.looked_at(SMOOTH, [0, 0, 0, -1, -2, -3], 6), [[3], [2], [1], [0], [0], [0]])
        self.assertEqual(len(self.looked_at(SMOOTH, [1, 2, 3, 4, 5, 6], 6)), 6)
        self.assertIsNone(self.looked_at(SMOOTH, [1, 2, 3, 4, 5, 6], 5))
        self.assertIsNone(self.looked_at(SMOOTH, [1, 2, 3, 0, 0, 0], 2))
        self.same(self.looked_at(SMOOTH, [1, 2, 3, 0, 0, 0], 8), [[0]] * 5 + [[3], [2], [1]])

    def test_order_of_knocks(self):
        """Two ears at both ends: each list of knocks has one number for each ear."""
        web = Web(["level", "level"], [(0, 1, 2, 3)], [(0, 3), (1, 3)])
        self.same(self.looked_at(web, [1, 2, 3, 4], 2), [[2, 4], [1, 3]])
        twisted = Web(["level", "level"], [(0, 1, 2, 3, -1)], [(0, 3), (1, 3)])
        self.same(self.looked_at(twisted, [1, 2, 3, 4], 2), [[2, 4], [1, 3]])

    def test_any(self):
        draw = source(1058)
        seen = {True: 0, False: 0}
        for player in [SMOOTH, *small_players(draw, 10)]:
            if isinstance(player, Web):
                for ticks in (0, 1, 3):
                    for wish in (fracs(some_state(draw, player.cells)), player.rest(),
                                 *[player.flip(state) for state in units(player.cells)[:3]]):
                        seen[self.looked_at(player, wish, ticks) is None] += 1
        self.assertGreater(min(seen.values()), 20)

    def test_no_ticks(self):
        self.assertEqual(put_in_unheard(SMOOTH, [0] * 6, 0), [])
        self.assertIsNone(put_in_unheard(SMOOTH, [0] * 5 + [1], 0))
        self.assertEqual(put_in_unheard(SMOOTH, [0] * 6, 24), [[0]] * 24)
        self.assertEqual(put_in_unheard(Web(), [], 2), [[], []])

    def test_refused(self):
        for player in (Pile([HALF]), Core.of(SMOOTH)):
            self.refused(NotAWeb, {}, put_in_unheard, player, [0] * 9, 25)
        for given in (0, 5, 7):
            self.refused(BadSizes, {"given": given, "wanted": 6}, put_in_unheard, SMOOTH, [0] * given, 25)
        for ticks in (-1, 25, 10 ** 30):
            self.refused(BadCount, {"count": ticks}, put_in_unheard, SMOOTH, [0] * 6, ticks)

    def test_new_lists(self):
        wish = [1, 2, 3, 0, 0, 0]
        put_in_unheard(SMOOTH, wish, 3)[0][0] = 9
        self.assertEqual(wish, [1, 2, 3, 0, 0, 0])
        self.same(put_in_unheard(SMOOTH, wish, 3), [[3], [2], [1]])


if __name__ == "__main__":
    unittest.main()
