"""Points 89 and 90, with points 17 and 19: Lead."""

import unittest
from fractions import Fraction

from rodwebs.cores import Core
from rodwebs.errors import BadSizes, Mismatch, NotAlong
from rodwebs.fracs import Frac
from rodwebs.heardparts import heard_part, heard_space, silent
from rodwebs.leads import Lead
from rodwebs.piles import Pile
from rodwebs.runs import echoes
from rodwebs.tables import Table
from rodwebs.webs import Web
from tests.helpers import Looks, applied, exact, fracs, source
from tests.players import TOLD, inner, some_players, web_of
from tests.told import some_state

WEB = web_of(TOLD)
# Two equal rods at one joint, and one rod as strong as both.
TWO = Web(["level", "level", "level"], [(0, 1, 1, 1), (0, 2, 1, 1)], [(0, 1)])
ONE = Web(["level", "level"], [(0, 1, 1, 2)], [(0, 1)])
LIFT = Table([[1, 0], [0, 1], [1, 0], [0, 1]])
MEAN = Table([[Frac(1, 2), 0, Frac(1, 2), 0], [0, Frac(1, 2), 0, Frac(1, 2)]])


class Making(Looks, unittest.TestCase):
    def test_attributes(self):
        lead = Lead(ONE, TWO, LIFT)
        self.assertIs(lead.first, ONE)
        self.assertIs(lead.second, TWO)
        self.assertEqual(lead.table, LIFT)
        self.assertEqual(Lead(TWO, ONE, MEAN).table, MEAN)

    def test_call(self):
        lead = Lead(ONE, TWO, LIFT)
        given = lead((3, Frac(1, 2)))
        self.assertIs(type(given), list)
        self.same(given, [3, Fraction(1, 2), 3, Fraction(1, 2)])
        for count in (0, 1, 3, 4):
            self.refused(BadSizes, {"given": count, "wanted": 2}, lead, [0] * count)

    def test_goes_along(self):
        draw = source(890)
        state, knocks = some_state(draw, 2), some_state(draw, 1)
        lead = Lead(ONE, TWO, LIFT)
        new, heard = ONE.tick(fracs(state), fracs(knocks))
        self.assertEqual(TWO.tick(lead(fracs(state)), fracs(knocks)), (lead(new), heard))

    def test_same(self):
        draw = source(891)
        for player in some_players(draw):
            lead = Lead.same(player)
            self.assertIs(type(lead), Lead)
            self.assertIs(lead.first, player)
            self.assertIs(lead.second, player)
            self.assertEqual(lead.table, Table.unit(player.cells))
            state = some_state(draw, player.cells)
            self.same(lead(fracs(state)), state)

    def test_do_not_agree(self):
        bad = Table([[7]])
        for other in (Web(["level", "level"], [(0, 1, 1, 2)], [(0, 3)]), Web(["level", "level"], [(0, 1, 1, 2)]),
                      Web(["level", "level"], [(0, 1, 1, 2)], [(0, 1), (0, 1)])):
            self.refused(Mismatch, {}, Lead, ONE, other, Table.unit(2))
            self.refused(Mismatch, {}, Lead, other, ONE, bad)
        first = Web(["level"], [], [(0, 1), (0, 2)])
        second = Web(["level"], [], [(0, 2), (0, 1)])
        self.refused(Mismatch, {}, Lead, first, second, Table([]))

    def test_wrong_shapes(self):
        for table in (LIFT.transposed(), Table.unit(4), Table.unit(2), Table([]), Table.zero(4, 3), Table.zero(5, 2)):
            self.refused(Mismatch, {}, Lead, ONE, TWO, table)

    def not_along(self, first, second, table, call):
        error = self.refused(NotAlong, {}, call)
        self.assertEqual([type(error.state), type(error.knocks)], [tuple, tuple])
        self.all_fracs([error.state, error.knocks])
        self.assertEqual((len(error.state), len(error.knocks)), (first.cells, first.ears))
        new, heard = first.tick(error.state, error.knocks)
        rows = exact(list(table))
        along = second.tick(fracs(applied(rows, exact(error.state))), error.knocks)
        self.assertNotEqual(exact(along), [applied(rows, exact(new)), exact(heard)])

    def test_not_along(self):
        tables = [LIFT + Table([[0, 0]] * row + [[1, 0]] + [[0, 0]] * (3 - row)) for row in range(4)]
        tables.extend([LIFT * 2, -LIFT, Table.zero(4, 2), Table([[0, 1], [1, 0], [0, 1], [1, 0]])])
        for table in tables:
            self.not_along(ONE, TWO, table, lambda: Lead(ONE, TWO, table))

    def test_not_along_only_by_knocks(self):
        # Without cells nothing but the echo at tick 0 can differ.
        for first, second in ((Pile([]), Pile([], end=-1)), (Web(["level"], [], [(0, 1)]), Web(["stream"], [], [(0, 1)]))):
            error = self.refused(NotAlong, {}, Lead, first, second, Table([]))
            self.assertEqual(error.state, ())
            self.assertTrue(error.knocks[0] != 0)
            self.all_fracs([error.knocks])

    def test_not_along_only_by_what_is_heard(self):
        first = Core.of(ONE)
        second = first.negated()
        self.not_along(first, second, Table.unit(2), lambda: Lead(first, second, Table.unit(2)))
        for end in (1, -1):
            pile, other = Pile([Frac(1, 2)], end=end), Pile([Frac(1, 2)], end=-end)
            self.not_along(pile, other, Table.unit(1), lambda: Lead(pile, other, Table.unit(1)))
            self.not_along(pile, other, -Table.unit(1), lambda: Lead(pile, other, -Table.unit(1)))

    def test_silent_parts_are_free(self):
        """A lead may do with silent states whatever goes along."""
        turn = Web(["level", "level"], [(0, 1, 1, 1)])
        for table in (Table.unit(2), Table.zero(2, 2), Table([[0, 1], [1, 0]]), Table([[2, 3], [3, 2]])):
            self.assertEqual(Lead(turn, turn, table).table, table)
        self.refused(NotAlong, {}, Lead, turn, turn, Table([[1, 0], [0, 2]]))

    def test_no_lead_between_unalike(self):
        other = Web(["level", "level"], [(0, 1, 1, 3)], [(0, 1)])
        self.assertNotEqual(echoes(ONE, 3), echoes(other, 3))
        self.refused(NotAlong, {}, Lead, ONE, other, Table.unit(2))


class Joining(Looks, unittest.TestCase):
    def test_then(self):
        draw = source(900)
        up, down = Lead(ONE, TWO, LIFT), Lead(TWO, ONE, MEAN)
        for one, other in ((up, down), (down, up), (Lead.same(ONE), up), (up, Lead.same(TWO)), (down, heard_part(ONE))):
            both = one.then(other)
            self.assertIs(type(both), Lead)
            self.assertIs(both.first, one.first)
            self.assertIs(both.second, other.second)
            state = fracs(some_state(draw, one.first.cells))
            self.assertEqual(both(state), other(one(state)))
        self.assertEqual(up.then(down).table, Table.unit(2))
        self.assertEqual(down.then(up).table, LIFT * MEAN)

    def test_then_refused(self):
        up = Lead(ONE, TWO, LIFT)
        self.refused(Mismatch, {}, up.then, up)
        self.refused(Mismatch, {}, up.then, Lead.same(ONE))
        louder = Web(TWO.joints, TWO.rods, [(0, 3)])
        self.refused(Mismatch, {}, up.then, Lead.same(louder))
        self.refused(Mismatch, {}, up.then, Lead.same(Web(TWO.joints, TWO.rods, [(0, 1), (0, 1)])))

    def test_then_not_along(self):
        up = Lead(ONE, TWO, LIFT)
        other = Web(["level"] * 3, [(0, 1, 1, 1), (1, 2, 1, 1)], [(0, 1)])
        error = self.refused(NotAlong, {}, up.then, Lead.same(other))
        self.assertEqual((len(error.state), len(error.knocks)), (2, 1))
        self.all_fracs([error.state, error.knocks])
        new, heard = ONE.tick(error.state, error.knocks)
        self.assertNotEqual(other.tick(up(error.state), error.knocks), (up(new), heard))

    def test_then_with_another_player_that_fits(self):
        up = Lead(ONE, TWO, LIFT)
        both = up.then(Lead.same(Core.of(TWO)))
        self.assertEqual((both.first, both.table), (ONE, LIFT))
        self.assertIs(type(both.second), Core)

    def leads(self):
        yield Lead(ONE, TWO, LIFT)
        yield Lead(TWO, ONE, MEAN)
        yield Lead(TWO, TWO, Table([[0, 0, 1, 0], [0, 0, 0, 1], [1, 0, 0, 0], [0, 1, 0, 0]]))
        turn = Web(["level", "level"], [(0, 1, 1, 1)])
        yield Lead(turn, turn, Table([[2, 3], [3, 2]]))
        for player in (WEB, ONE, TWO, Web(), Pile([]), Pile([Frac(1, 3), Frac(-1, 2)], end=-1, strength=2)):
            yield Lead.same(player)
            yield heard_part(player)

    def test_back(self):
        draw = source(901)
        for lead in self.leads():
            back = lead.back()
            self.assertIs(type(back), Lead)
            self.assertIs(back.first, lead.second)
            self.assertIs(back.second, lead.first)
            for _ in range(3):
                x, y = fracs(some_state(draw, lead.first.cells)), fracs(some_state(draw, lead.second.cells))
                self.assertEqual(inner(lead.second, lead(x), y), inner(lead.first, x, back(y)))
            for state in heard_space(lead.first):
                self.assertEqual(back(lead(state)), list(state))
            self.assertEqual(back.back().table, lead.table)

    def test_heard_products_are_kept(self):
        for lead in self.leads():
            heard = list(heard_space(lead.first))
            for x in heard:
                for y in heard:
                    self.assertEqual(inner(lead.first, x, y), inner(lead.second, lead(x), lead(y)))

    def test_alike(self):
        for lead in self.leads():
            count = min(lead.first.cells, lead.second.cells) + 1
            self.assertEqual(echoes(lead.first, count), echoes(lead.second, count))
            self.assertEqual(lead.first.cells - len(silent(lead.first)), lead.second.cells - len(silent(lead.second)))

    def test_nothing_changes(self):
        lead = Lead(ONE, TWO, LIFT)
        state = [1, 2]
        lead(state)[0] = 9
        lead.back()
        lead.then(Lead(TWO, ONE, MEAN))
        self.assertEqual((lead.table, state), (LIFT, [1, 2]))
        self.same(lead(state), [1, 2, 1, 2])


if __name__ == "__main__":
    unittest.main()
