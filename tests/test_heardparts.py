"""Point 91, with points 18, 19 and 32: unheard, silent, heard_space, parted, heard_part."""

import unittest
from fractions import Fraction

from rodwebs.cores import Core
from rodwebs.errors import BadCount, BadOrder, BadSizes, NoEar
from rodwebs.fracs import Frac
from rodwebs.heardparts import heard_part, heard_space, parted, silent, unheard
from rodwebs.leads import Lead
from rodwebs.piles import Pile
from rodwebs.runs import echoes, play
from rodwebs.spaces import Space
from rodwebs.webs import Web
from tests.helpers import Looks, exact, fracs, rank_of, source
from tests.players import TOLD, inner, some_players, units, web_of
from tests.told import ToldWeb, heard_alone, heard_columns, some_state, told_webs

WEB = web_of(TOLD)
TWO = Web(["level", "level", "level"], [(0, 1, 1, 1), (0, 2, 1, 1)], [(0, 1)])
# A piece that hangs at no ear, beside one that does.
APART = ToldWeb(["level", "stream", "level", "level"], [(0, 1, 2, Fraction(2), 1), (2, 3, 1, Fraction(3), 1)],
                [(0, Fraction(1)), (1, Fraction(3))])


def groups(count):
    """All groups of so many ears, some of them not in order."""
    out = [[]]
    for ear in range(count):
        out += [[ear, *group] for group in out]
    return [None, *out]


class Unheard(Looks, unittest.TestCase):
    def looked_at(self, told, web, ticks, group):
        space = unheard(web, ticks, ears=group)
        self.assertIs(type(space), Space)
        self.assertEqual(space.size, told.cells)
        # Nothing is heard from it, and its dimension is the greatest with which this can be.
        for state in space:
            self.assertFalse(any(heard_alone(told, exact(state), ticks, group)))
        self.assertEqual(len(space), told.cells - rank_of(heard_columns(told, ticks, group)))

    def test_some_ticks(self):
        draw = source(910)
        for told in [TOLD, APART, *told_webs(draw, 5)]:
            if told.cells <= 10:
                for ticks in (0, 1, 2, 4, told.cells):
                    for group in groups(len(told.ears))[:6]:
                        self.looked_at(told, web_of(told), ticks, group)

    def test_no_ticks_and_no_ears(self):
        self.assertEqual(unheard(WEB, 0), Space.whole(8))
        self.assertEqual(unheard(WEB, 200, ears=[]), Space.whole(8))
        self.assertEqual(unheard(WEB, 5, ears=()), Space.whole(8))
        self.assertEqual(unheard(Web(), 3), Space(0))
        self.assertEqual(unheard(Web(["level"], [], [(0, 1)]), 3), Space(0))
        self.assertEqual(unheard(Web(["level", "level"], [(0, 1, 1, 1)]), 3), Space.whole(2))

    def test_groups(self):
        self.assertEqual(unheard(WEB, 3), unheard(WEB, 3, ears=None))
        self.assertEqual(unheard(WEB, 3), unheard(WEB, 3, ears=(1, 0)))
        self.assertEqual(unheard(WEB, 3, ears=[0]) & unheard(WEB, 3, ears=[1]), unheard(WEB, 3))
        self.assertNotEqual(unheard(WEB, 2, ears=[0]), unheard(WEB, 2, ears=[1]))

    def test_bounds(self):
        self.assertEqual(unheard(WEB, 200), silent(WEB))
        for ticks in (-1, 201, 10 ** 30):
            self.refused(BadCount, {"count": ticks}, unheard, WEB, ticks)
            self.refused(BadCount, {"count": ticks}, unheard, WEB, ticks, ears=[9, 9])

    def test_wrong_groups(self):
        for call in (lambda ears: unheard(WEB, 2, ears=ears), lambda ears: unheard(WEB, 0, ears=ears),
                     lambda ears: silent(WEB, ears=ears)):
            for ear in (2, -1, 10 ** 30):
                self.refused(NoEar, {"ear": ear}, call, [0, ear, 7])
                self.refused(NoEar, {"ear": ear}, call, [0, 0, ear])
            self.refused(BadOrder, {}, call, [0, 0])
            self.refused(BadOrder, {}, call, (1, 0, 1))
        self.refused(NoEar, {"ear": 0}, unheard, Web(), 3, ears=[0])

    def test_all_kinds_of_players(self):
        draw = source(911)
        for player in some_players(draw):
            for ticks in (1, 3):
                for state in unheard(player, ticks):
                    record = play(player, state, [[0] * player.ears] * ticks)
                    self.assertTrue(all(number == 0 for numbers in record.heard_lists() for number in numbers))


class Silent(Looks, unittest.TestCase):
    def test_dimensions(self):
        draw = source(912)
        for told in [TOLD, APART, *told_webs(draw, 10)]:
            if told.cells <= 12:
                for group in groups(len(told.ears))[:5]:
                    space = silent(web_of(told), ears=group)
                    self.assertEqual(space, unheard(web_of(told), told.cells, ears=group))
                    self.assertEqual(len(space), told.cells - rank_of(heard_columns(told, told.cells, group)))

    def test_known(self):
        self.assertEqual(len(silent(TWO)), 2)
        self.assertEqual(silent(TWO), Space(4, [1, 0, -1, 0], [0, 1, 0, -1]))
        self.assertEqual(len(silent(Web(["level", "level"], [(0, 1, 1, 2)], [(0, 1)]))), 0)
        self.assertEqual(silent(web_of(APART)), Space(6, [0] * 4 + [1, 0], [0] * 5 + [1]))
        self.assertEqual(silent(web_of(APART), ears=[]), Space.whole(6))
        self.assertEqual(silent(Pile([Frac(1, 2), 0, Frac(-1, 3)])), Space(3))
        self.assertGreater(len(silent(WEB)), 0)
        self.assertLess(len(silent(WEB)), WEB.cells)

    def test_they_stay_and_keep_their_energy(self):
        for web in (WEB, TWO, web_of(APART), Core.of(WEB)):
            space = silent(web)
            for state in space:
                new, heard = web.tick(list(state), [0] * web.ears)
                self.assertIn(new, space)
                self.assertEqual(web.energy(new), web.energy(state))
                self.assertTrue(all(number == 0 for number in heard))


class Heard(Looks, unittest.TestCase):
    def test_space(self):
        draw = source(913)
        for player in [WEB, *some_players(draw)]:
            space = heard_space(player)
            self.assertIs(type(space), Space)
            self.assertEqual(len(space), player.cells - len(silent(player)))
            for state in space:
                for other in silent(player):
                    self.assertEqual(inner(player, state, other), 0)

    def test_knocks_bring_just_them(self):
        draw = source(914)
        for player in [WEB, *some_players(draw, 3)]:
            if player.cells <= 8:
                brought = []
                for tick in range(player.cells):
                    for knocks in units(player.ears):
                        silence = [[0] * player.ears] * (player.cells - tick - 1)
                        brought.append(play(player, player.rest(), [knocks, *silence]).now())
                self.assertEqual(Space(player.cells, *brought), heard_space(player))

    def test_parted(self):
        draw = source(915)
        for player in [WEB, TWO, web_of(APART), *some_players(draw)]:
            state = fracs(some_state(draw, player.cells))
            given = parted(player, tuple(state))
            self.assertEqual([type(given), type(given[0]), type(given[1])], [tuple, list, list])
            hidden, shown = given
            self.all_fracs([hidden, shown])
            self.assertEqual([x + y for x, y in zip(hidden, shown)], state)
            self.assertIn(hidden, silent(player))
            self.assertIn(shown, heard_space(player))
            self.assertEqual(player.energy(hidden) + player.energy(shown), player.energy(state))
            silence = [[0] * player.ears] * 6
            self.assertEqual(play(player, state, silence).heard_lists(), play(player, shown, silence).heard_lists())

    def test_parted_known(self):
        hidden, shown = parted(TWO, [1, 2, 3, 5])
        self.same(hidden, [-1, Fraction(-3, 2), 1, Fraction(3, 2)])
        self.same(shown, [2, Fraction(7, 2), 2, Fraction(7, 2)])
        # Strengths count: the mean of the heard part leans to the stronger rod.
        web = Web(["level", "level", "level"], [(0, 1, 1, 3), (0, 2, 1, 1)], [(0, 1)])
        self.same(parted(web, [4, 0, 0, 0])[1], [3, 0, 3, 0])

    def test_refused(self):
        for given in (0, 7, 9):
            self.refused(BadSizes, {"given": given, "wanted": 8}, parted, WEB, [0] * given)
        state = [1] * 8
        parted(WEB, state)[0][0] = 7
        self.assertEqual(state, [1] * 8)


class HeardPart(Looks, unittest.TestCase):
    def test_lead(self):
        draw = source(916)
        for player in [WEB, TWO, web_of(APART), *some_players(draw)]:
            lead = heard_part(player)
            self.assertIs(type(lead), Lead)
            self.assertIs(lead.first, player)
            self.assertIs(type(lead.second), Core)
            self.assertEqual(lead.second.cells, len(heard_space(player)))
            self.assertEqual(lead.second.strengths, player.strengths)
            for state in silent(player):
                self.assertFalse(any(lead(state)))
            self.assertEqual(len(silent(lead.second)), 0)
            self.assertEqual(echoes(lead.second, player.cells + 1), echoes(player, player.cells + 1))

    def test_goes_along(self):
        draw = source(917)
        for told in [TOLD, *told_webs(draw, 8)]:
            player = web_of(told)
            lead = heard_part(player)
            state, knocks = fracs(some_state(draw, player.cells)), fracs(some_state(draw, player.ears))
            new, heard = player.tick(state, knocks)
            self.assertEqual(lead.second.tick(lead(state), knocks), (lead(new), heard))
            shown = parted(player, state)[1]
            self.assertEqual(lead(state), lead(shown))
            self.assertEqual(lead.second.energy(lead(state)), player.energy(shown))

    def test_large(self):
        web = Web(["level"] * 8, [(k, 7 - k, 1, k + 1) for k in range(7)] + [(0, 0, 5, 1)], [(k, 1) for k in range(4)])
        lead = heard_part(web)
        self.assertEqual(lead.second.cells, 24 - len(silent(web)))
        self.assertLess(lead.second.cells, 24)

    def test_nothing_heard(self):
        for player in (Web(), Web(["level", "level"], [(0, 1, 1, 1)]), Web(["level"], [], [(0, 1), (0, 2)])):
            lead = heard_part(player)
            self.assertEqual((lead.second.cells, lead.second.ears), (0, player.ears))
            self.assertEqual(lead([1] * player.cells), [])


if __name__ == "__main__":
    unittest.main()
