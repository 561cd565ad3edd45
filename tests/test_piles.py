"""Points 95 to 97, with points 26 to 28: Pile."""

import unittest
from fractions import Fraction

from rodwebs.cores import Core
from rodwebs.errors import BadCount, BadEnd, BadPane, BadSizes, BadStrength, TooLarge
from rodwebs.fracs import Frac
from rodwebs.heardparts import silent
from rodwebs.piles import Pile
from rodwebs.players import Player
from rodwebs.polys import Poly
from rodwebs.ratios import Ratio
from rodwebs.runs import echo, echoes, play
from rodwebs.shapes import re_eared
from rodwebs.webs import Web
from tests.helpers import Looks, exact, frac, fracs, source
from tests.players import pile_of_told
from tests.told import ToldPile, some_pane, some_pile, some_state, some_strength

HALF = Frac(1, 2)


def some_told_piles(draw):
    for count in (0, 1, 2, 3, 5, 8):
        for _ in range(2):
            yield some_pile(draw, count)


class Making(Looks, unittest.TestCase):
    def test_attributes(self):
        pile = Pile((HALF, 0, Frac(-1, 3)), end=-1, strength=2)
        self.assertEqual(Pile.__bases__, (Player,))
        self.assertIs(type(pile.panes), tuple)
        self.same(pile.panes, [Fraction(1, 2), 0, Fraction(-1, 3)])
        self.assertEqual((pile.end, type(pile.end)), (-1, int))
        self.assertEqual((pile.cells, pile.ears), (3, 1))
        self.same(pile.strengths, [2])
        self.assertEqual(len(pile), 3)
        self.same(list(pile), [Fraction(1, 2), 0, Fraction(-1, 3)])

    def test_left_out(self):
        pile = Pile([])
        self.assertEqual((pile.panes, pile.end, len(pile), pile.cells, list(pile)), ((), 1, 0, 0, []))
        self.same(pile.strengths, [1])

    def test_bounds(self):
        near = Frac(10 ** 59 - 1, 10 ** 59)
        self.assertEqual(Pile([near, -near]).panes, (near, -near))
        self.assertEqual(len(Pile([0] * 24)), 24)
        self.refused(BadCount, {"count": 25}, Pile, [2] * 25, end=0, strength=0)
        for pane in (1, -1, Frac(1), Frac(-3, 2), Frac(10 ** 59 + 1, 10 ** 59), 10 ** 30):
            self.refused(BadPane, {"index": 2}, Pile, [0, HALF, pane, 7], end=0, strength=0)
        self.refused(BadPane, {"index": 23}, Pile, [0] * 23 + [1])

    def test_end_and_strength(self):
        for end in (0, 2, -2, 10 ** 30):
            self.refused(BadEnd, {"end": end}, Pile, [0], end=end, strength=0)
        for strength in (0, -1, Frac(-1, 2)):
            error = self.refused(BadStrength, {"strength": strength}, Pile, [0], end=-1, strength=strength)
            self.assertIs(error.strength, strength)

    def test_equal(self):
        pile = Pile([HALF, 0], end=-1, strength=2)
        self.truth(pile == Pile((Frac(2, 4), Frac(0)), end=-1, strength=Frac(2)), True)
        self.truth(pile != Pile((Frac(2, 4), Frac(0)), end=-1, strength=Frac(2)), False)
        for other in (Pile([HALF, 0], strength=2), Pile([HALF, 0], end=-1), Pile([0, HALF], end=-1, strength=2),
                      Pile([HALF], end=-1, strength=2), Pile([HALF, 0, 0], end=-1, strength=2), Core.of(pile),
                      pile.panes, None):
            self.truth(pile == other, False)
            self.truth(pile != other, True)

    def test_copies(self):
        panes = [HALF, 0]
        pile = Pile(panes)
        panes[0] = 7
        panes.append(3)
        self.assertEqual(pile, Pile([HALF, 0]))


class Playing(Looks, unittest.TestCase):
    def test_tick_and_back(self):
        draw = source(950)
        for told in some_told_piles(draw):
            pile = pile_of_told(told)
            for _ in range(3):
                state, knocks = some_state(draw, told.cells), some_state(draw, 1)
                given = pile.tick(tuple(fracs(state)), fracs(knocks))
                self.assertEqual([type(given), type(given[0]), type(given[1])], [tuple, list, list])
                new, heard = told.tick(state, knocks)
                self.same(given[0], new)
                self.same(given[1], heard)
                old = pile.back(given[0], tuple(given[1]))
                self.assertEqual([type(old), type(old[0]), type(old[1])], [tuple, list, list])
                self.same(old[0], state)
                self.same(old[1], knocks)
                before = pile.back(fracs(state), fracs(knocks))
                self.assertEqual(pile.tick(*before), (fracs(state), fracs(knocks)))

    def test_product(self):
        draw = source(951)
        for told in some_told_piles(draw):
            pile = pile_of_told(told)
            first, second = some_state(draw, told.cells), some_state(draw, told.cells)
            self.one(pile.product(fracs(first), tuple(fracs(second))), told.product(first, second))
            self.one(pile.energy(fracs(first)), told.product(first, first))

    def test_energy(self):
        draw = source(952)
        for told in some_told_piles(draw):
            pile = pile_of_told(told)
            start = fracs(some_state(draw, told.cells))
            record = play(pile, start, [fracs(some_state(draw, 1)) for _ in range(6)])
            self.assertEqual(pile.energy(start) + record.energy_in, record.energy_left + record.energy_out)

    def test_all_states_are_heard(self):
        draw = source(953)
        for told in some_told_piles(draw):
            self.assertEqual(len(silent(pile_of_told(told))), 0)

    def test_lengths(self):
        pile = Pile([HALF, 0])
        for call in (pile.tick, pile.back):
            self.refused(BadSizes, {"given": 1, "wanted": 2}, call, [0], [])
            self.refused(BadSizes, {"given": 3, "wanted": 2}, call, [0] * 3, [0])
            self.refused(BadSizes, {"given": 0, "wanted": 1}, call, [0, 0], [])
            self.refused(BadSizes, {"given": 2, "wanted": 1}, call, [0, 0], [0, 0])
        self.refused(BadSizes, {"given": 1, "wanted": 2}, pile.product, [0], [0] * 3)
        self.refused(BadSizes, {"given": 3, "wanted": 2}, pile.product, [0, 0], [0] * 3)

    def test_integers_are_numbers(self):
        pile, state, knocks = Pile([HALF, 0]), [1, 2], [3]
        for given in (pile.tick(state, knocks), pile.back(state, knocks)):
            self.all_fracs(given)
        self.assertEqual((state, knocks), ([1, 2], [3]))
        self.same(Pile([], end=-1).tick([], [3])[1], [-3])
        self.same(Pile([], end=-1).back([], [3])[1], [-3])


class Echoes(Looks, unittest.TestCase):
    def test_echo(self):
        draw = source(960)
        for told in some_told_piles(draw):
            pile = pile_of_told(told)
            given = pile.echo(12)
            self.assertIs(type(given), list)
            self.same(given, told.echoes(12))
            self.assertEqual(given, echo(pile, 12))

    def test_counts(self):
        pile = Pile([0, 0])
        self.assertEqual(pile.echo(0), [])
        self.assertEqual(len(pile.echo(200)), 200)
        self.same(pile.echo(4), [0, 0, 1, 0])
        for count in (-1, 201, 10 ** 30):
            self.refused(BadCount, {"count": count}, pile.echo, count)

    def test_ratio(self):
        draw = source(961)
        for told in some_told_piles(draw):
            pile = pile_of_told(told)
            ratio = pile.ratio()
            self.assertIs(type(ratio), Ratio)
            top, bottom = Poly([told.end]), Poly([1])
            for pane in reversed(pile.panes):
                late = Poly([0, 1]) * top
                top, bottom = bottom * pane + late, bottom + late * pane
            self.assertEqual((ratio.top, ratio.bottom), (top, bottom))
            self.assertEqual(ratio.bottom.coefficients[0], 1)
            self.assertEqual(ratio.top, told.end * ratio.bottom.reversed_to(len(pile)))
            self.assertEqual(list(ratio.powers(15)), pile.echo(15))

    def test_ratio_known(self):
        ratio = Pile([HALF, Frac(1, 3)]).ratio()
        self.assertEqual((ratio.top, ratio.bottom), (Poly([HALF, HALF, 1]), Poly([1, HALF, HALF])))
        self.assertEqual(Pile([], end=-1).ratio(), Ratio(Poly([-1]), Poly([1])))

    def test_24_panes(self):
        pile = Pile([HALF, Frac(-1, 3)] * 12)
        ratio = pile.ratio()
        self.assertEqual((ratio.top.degree, ratio.bottom.degree), (24, 24))
        self.assertEqual(list(ratio.powers(30)), pile.echo(30))


class AsWebs(Looks, unittest.TestCase):
    def test_webs(self):
        draw = source(962)
        for count in range(8):
            told = some_pile(draw, count)
            web = pile_of_told(told).as_web()
            self.assertIs(type(web), Web)
            strengths = told.cell_strengths()
            self.assertEqual(web.joints, ("level",) * count + ("level" if told.end == 1 else "stream",))
            self.assertEqual(web.rods, tuple((k, k + 1, 1, frac(z), 1) for k, z in enumerate(strengths)))
            self.assertEqual(web.ear_list, ((0, frac(told.strength)),))
            wanted = [x for number in told.echoes(8) for x in (number, 0)]
            self.same(echo(web, 16), wanted)

    def test_known(self):
        self.assertEqual(Pile([HALF, Frac(-1, 3)], strength=3).as_web(), Web.line([1, 2], ear=3))
        self.assertEqual(Pile([], end=-1).as_web(), Web.line([], end="stream"))
        self.assertEqual(Pile([0], end=-1, strength=HALF).as_web(), Web.line([HALF], ear=HALF, end="stream"))

    def test_too_large(self):
        self.assertEqual(Pile([0] * 7).as_web().cells, 14)
        self.refused(TooLarge, {"size": 16}, Pile([0] * 8).as_web)
        self.refused(TooLarge, {"size": 48}, Pile([0] * 24).as_web)


class NewPiles(Looks, unittest.TestCase):
    def test_behind(self):
        draw = source(970)
        for told in some_told_piles(draw):
            pile, pane = pile_of_told(told), some_pane(draw)
            made = pile.behind(frac(pane))
            self.assertEqual(made, Pile([frac(pane), *pile.panes], end=pile.end, strength=pile.strengths[0]))
            # Point 27: S = (c + t * T) / (1 + c * t * T).
            late, numbers = [Fraction(0)] + told.echoes(7), exact(made.echo(8))
            whole = [x + pane * sum(late[j] * numbers[k - j] for j in range(k + 1)) for k, x in enumerate(numbers)]
            self.assertEqual(whole, [pane] + late[1:])
        self.assertEqual(len(Pile([0] * 23).behind(HALF)), 24)
        full = Pile([0] * 24)
        self.refused(BadCount, {"count": 25}, full.behind, 7)
        for pane in (1, -1, Frac(5, 4)):
            self.refused(BadPane, {"index": 0}, Pile([HALF]).behind, pane)

    def test_negated(self):
        draw = source(971)
        for told in some_told_piles(draw):
            pile = pile_of_told(told)
            made = pile.negated()
            self.assertEqual(made, Pile([-c for c in pile.panes], end=-pile.end, strength=pile.strengths[0]))
            self.same(made.echo(9), [-number for number in told.echoes(9)])
            self.assertEqual(made.negated(), pile)

    def test_with_end(self):
        draw = source(972)
        for told in some_told_piles(draw):
            pile = pile_of_told(told)
            for end in (1, -1):
                made = pile.with_end(end)
                self.assertEqual(made, Pile(pile.panes, end=end, strength=pile.strengths[0]))
                self.same(made.echo(9), ToldPile(told.panes, end).echoes(9))
        for end in (0, 2, -2):
            self.refused(BadEnd, {"end": end}, Pile([HALF]).with_end, end)

    def test_spread(self):
        draw = source(973)
        for told in some_told_piles(draw):
            pile = pile_of_told(told)
            for times in (1, 2, 3):
                made = pile.spread(times)
                panes = [x for c in pile.panes for x in [c] + [0] * (times - 1)]
                self.assertEqual(made, Pile(panes, end=pile.end, strength=pile.strengths[0]))
                short = told.echoes(9)
                self.same(made.echo(9), [0 if k % times else short[k // times] for k in range(9)])

    def test_spread_bounds(self):
        self.assertEqual(len(Pile([0, HALF]).spread(12)), 24)
        self.assertEqual(Pile([]).spread(12), Pile([]))
        for times in (0, 13, -1, 10 ** 30):
            self.refused(BadCount, {"count": times}, Pile([HALF] * 24).spread, times)
        self.refused(BadCount, {"count": 36}, Pile([HALF] * 3).spread, 12)
        self.refused(BadCount, {"count": 26}, Pile([HALF] * 13).spread, 2)

    def test_re_eared(self):
        draw = source(974)
        for told in some_told_piles(draw):
            pile, strength = pile_of_told(told), some_strength(draw)
            made = pile.re_eared(frac(strength))
            self.same(made.strengths, [strength])
            self.assertEqual((made.panes[1:], made.end), (pile.panes[1:], pile.end))
            if told.panes:
                step = (strength - told.strength) / (strength + told.strength)
                self.one(made.panes[0], (step + told.panes[0]) / (1 + step * told.panes[0]))
            if len(pile) <= 7:
                self.assertEqual(made.as_web(), re_eared(pile.as_web(), 0, frac(strength)))
            self.assertEqual(made.re_eared(frac(told.strength)), pile)
        for strength in (0, -2, Frac(-1, 3)):
            error = self.refused(BadStrength, {"strength": strength}, Pile([HALF]).re_eared, strength)
            self.assertIs(error.strength, strength)
            self.refused(BadStrength, {"strength": strength}, Pile([]).re_eared, strength)
        self.assertEqual(Pile([HALF], strength=2).re_eared(6), Pile([Frac(4, 5)], strength=6))

    def test_nothing_changes(self):
        pile = Pile([HALF, 0], strength=2)
        for made in (pile.behind(0), pile.negated(), pile.with_end(-1), pile.spread(2), pile.re_eared(1)):
            self.assertNotEqual(made, pile)
        self.assertEqual(pile, Pile([HALF, 0], strength=2))
        self.assertEqual(echoes(pile, 3), echoes(Pile([HALF, 0], strength=7), 3))


if __name__ == "__main__":
    unittest.main()
