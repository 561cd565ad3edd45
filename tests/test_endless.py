"""Point 94, with point 24: stay, heard_for_ever, portions."""

import unittest
from fractions import Fraction

from rodwebs.cores import Core
from rodwebs.endless import heard_for_ever, portions, stay
from rodwebs.errors import BadSizes, Endless, NoEar, TooLarge
from rodwebs.fracs import Frac
from rodwebs.heardparts import heard_space, parted, silent
from rodwebs.piles import Pile
from rodwebs.runs import echoes
from rodwebs.tables import Table
from rodwebs.webs import Web
from tests.helpers import Looks, exact, fracs, source
from tests.players import TOLD, some_players, units, web_of
from tests.told import ToldWeb, some_state

WEB = web_of(TOLD)
HALF = Frac(1, 2)
# A rod of strength 1 with a free end, heard at an ear of strength 3: each round trip leaves a quarter of the energy.
ROD = Web(["level", "level"], [(0, 1, 1, 1)], [(0, 3)])
TWO = Web(["level", "level", "level"], [(0, 1, 1, 1), (0, 2, 1, 1)], [(0, 1)])


def small_players(draw):
    for player in [WEB, TWO, ROD, *some_players(draw, 5)]:
        if len(heard_space(player)) <= 8:
            yield player


class Stay(Looks, unittest.TestCase):
    def test_known(self):
        self.one(stay(ROD, [0, 1]), Fraction(5, 3))
        self.one(stay(ROD, (Frac(3, 2), 0)), 6)
        self.one(stay(ROD, [0, 0]), 0)
        self.one(stay(Pile([0, 0], strength=5), [1, 0]), 5)
        self.one(stay(Pile([0, 0], strength=5), [0, 1]), 10)
        self.one(stay(Pile([HALF]), [1]), Fraction(4, 9))
        self.one(stay(Web(), []), 0)
        self.one(stay(Web(["level", "level"], [(0, 1, 1, 2)]), [0, 0]), 0)

    def test_sums(self):
        draw = source(940)
        for player in small_players(draw):
            state = parted(player, fracs(some_state(draw, player.cells)))[1]
            total, now = Frac(0), state
            for _ in range(6):
                total, now = total + player.energy(now), player.alone(now, 1)
            self.one(stay(player, state), exact(total) + exact(stay(player, now)))
            self.assertGreaterEqual(stay(player, state), player.energy(state))

    def test_long_sums(self):
        for player, state in ((ROD, [1, 2]), (Core.of(ROD), [1, 2]), (Pile([HALF, Frac(-1, 3)], end=-1), [3, 1])):
            total, now = Fraction(0), state
            for _ in range(60):
                total, now = total + exact(player.energy(now)), player.alone(now, 1)
            given = exact(stay(player, state))
            self.assertGreater(given, total)
            self.assertLess(given - total, Fraction(1, 10 ** 8))

    def test_all_knocks(self):
        draw = source(941)
        for player in small_players(draw):
            sums = Fraction(0)
            for ear, knocks in enumerate(units(player.ears)):
                behind = player.tick(player.rest(), knocks)[0]
                sums += exact(stay(player, behind)) / exact(player.strengths[ear])
            self.assertEqual(sums, len(heard_space(player)))

    def test_endless(self):
        self.refused(Endless, {}, stay, TWO, [1, 0, -1, 0])
        self.refused(Endless, {}, stay, TWO, [1, 0, 0, 0])
        self.one(stay(TWO, [1, 0, 1, 0]), exact(stay(Web(["level", "level"], [(0, 1, 1, 2)], [(0, 1)]), [1, 0])))
        self.refused(Endless, {}, stay, Web(["level", "level"], [(0, 1, 1, 2)]), [0, 1])
        for state in silent(WEB):
            self.refused(Endless, {}, stay, WEB, state)
            self.refused(Endless, {}, stay, WEB, [x + y for x, y in zip(state, list(heard_space(WEB))[0])])

    def test_refused(self):
        for given in (0, 1, 3):
            self.refused(BadSizes, {"given": given, "wanted": 2}, stay, ROD, [1] * given)
            self.refused(BadSizes, {"given": given, "wanted": 2}, heard_for_ever, ROD, [1] * given, 7)
        for ear in (1, -1, 10 ** 30):
            self.refused(NoEar, {"ear": ear}, heard_for_ever, ROD, [1, 1], ear)
        self.refused(NoEar, {"ear": 0}, heard_for_ever, Web(), [], 0)


class Sizes(Looks, unittest.TestCase):
    def test_heard_size(self):
        eight = Pile([0] * 7 + [HALF])
        self.one(stay(eight, [1] + [0] * 7), 1)
        self.one(heard_for_ever(eight, [0] * 7 + [1], 0), Fraction(1, 3))
        self.same(list(portions(eight)), [[1]])
        nine = Pile([0] * 9)
        for state in ([0] * 9, [1] * 9):
            self.refused(TooLarge, {"size": 9}, stay, nine, state)
            self.refused(TooLarge, {"size": 9}, heard_for_ever, nine, state, 0)
        self.refused(TooLarge, {"size": 9}, portions, nine)

    def test_size_of_what_is_heard(self):
        # Three equal rods: 18 cells, but the heard size is 6.
        web = Web(["level"] * 4, [(0, k, 3, 1) for k in (1, 2, 3)], [(0, 1)])
        self.assertEqual((web.cells, len(heard_space(web))), (18, 6))
        self.same(list(portions(web)), [[1]])
        self.refused(Endless, {}, stay, web, [1] + [0] * 17)
        large = Web(["level"] * 3, [(0, 1, 5, 1), (0, 2, 5, 1)], [(0, 1)])
        self.refused(TooLarge, {"size": 10}, stay, large, [1] + [0] * 19)
        self.refused(TooLarge, {"size": 10}, stay, large, [1] + [0] * 9 + [-1] + [0] * 9)
        self.refused(BadSizes, {"given": 1, "wanted": 20}, stay, large, [1])
        self.refused(NoEar, {"ear": 1}, heard_for_ever, large, [0] * 20, 1)


class HeardForEver(Looks, unittest.TestCase):
    def test_known(self):
        self.one(heard_for_ever(ROD, [0, 1], 0), 1)
        self.one(heard_for_ever(ROD, (Frac(3, 2), 0), 0), Fraction(9, 4))
        self.one(heard_for_ever(TWO, [1, 0, 0, 0], 0), Fraction(1, 2))
        self.one(heard_for_ever(TWO, [1, 0, -1, 0], 0), 0)

    def test_all_is_heard(self):
        draw = source(942)
        for player in small_players(draw):
            state = fracs(some_state(draw, player.cells))
            heard = [heard_for_ever(player, state, ear) for ear in range(player.ears)]
            self.all_fracs(heard)
            self.assertEqual(sum(exact(heard)), exact(player.energy(parted(player, state)[1])))

    def test_tick_by_tick(self):
        draw = source(943)
        for player in small_players(draw):
            state = fracs(some_state(draw, player.cells))
            new, heard = player.tick(state, [0] * player.ears)
            for ear in range(player.ears):
                now = player.strengths[ear] * heard[ear] * heard[ear]
                self.assertEqual(heard_for_ever(player, state, ear), now + heard_for_ever(player, new, ear))


class Portions(Looks, unittest.TestCase):
    def test_tables(self):
        draw = source(944)
        for player in small_players(draw):
            given = portions(player)
            self.assertIs(type(given), Table)
            self.assertEqual((given.height, given.width), (player.ears, player.ears))
            at_once = echoes(player, 1)[0]
            for a, knocks in enumerate(units(player.ears)):
                self.assertEqual(sum(exact(given.column(a))), 1)
                behind = player.tick(player.rest(), knocks)[0]
                for b in range(player.ears):
                    energy = player.strengths[b] * at_once[b, a] * at_once[b, a] + heard_for_ever(player, behind, b)
                    self.assertEqual(given[b, a], energy.over(player.strengths[a]))
            if isinstance(player, Web):
                self.assertEqual(given, given.transposed())

    def test_known(self):
        self.assertEqual(portions(Web()), Table([]))
        self.same(list(portions(Web(["level"], [], [(0, 1), (0, 3)]))), [[Fraction(1, 4), Fraction(3, 4)],
                                                                       [Fraction(3, 4), Fraction(1, 4)]])
        rod = Web(["level", "level"], [(0, 1, 2, 1)], [(0, 1), (1, 1)])
        self.same(list(portions(rod)), [[0, 1], [1, 0]])

    def test_no_symmetry_but_for_webs(self):
        """A core in which each of three ears is heard at the next one."""
        turn = Core(Table([]), Table([], width=3), Table([[]] * 3), Table([[0, 0, 1], [1, 0, 0], [0, 1, 0]]),
                    form=Table([]), strengths=[2, 2, 2])
        self.same(list(portions(turn)), [[0, 0, 1], [1, 0, 0], [0, 1, 0]])

    def test_long_sums(self):
        told = ToldWeb(["level", "stream"], [(0, 1, 1, Fraction(1), 1), (1, 1, 1, Fraction(1, 2), -1)],
                       [(0, Fraction(2)), (1, Fraction(1, 3))])
        given = exact(list(portions(web_of(told))))
        for a in range(2):
            for b in range(2):
                sums = sum(told.ears[b][1] * table[b][a] ** 2 for table in told.echoes(80)) / told.ears[a][1]
                self.assertLessEqual(sums, given[b][a])
                self.assertLess(given[b][a] - sums, Fraction(1, 10 ** 6))

    def test_nothing_changes(self):
        state = [0, 1]
        stay(ROD, state)
        heard_for_ever(ROD, state, 0)
        self.assertEqual(state, [0, 1])


if __name__ == "__main__":
    unittest.main()
