"""Point 108, with points 17, 18, 19 and 49: first_difference, alike, compare, lead_between."""

import unittest

from rodwebs.alike import alike, compare, first_difference, lead_between
from rodwebs.cores import Core
from rodwebs.errors import Mismatch, Unalike
from rodwebs.fracs import Frac
from rodwebs.heardparts import heard_part, heard_space, silent
from rodwebs.leads import Lead
from rodwebs.linked import Linked
from rodwebs.papers import Alike, Unlike
from rodwebs.peeling import pile_of
from rodwebs.piles import Pile
from rodwebs.runs import echoes
from rodwebs.shapes import dual, re_eared, side_by_side, stretched
from rodwebs.tables import Table
from rodwebs.webs import Web
from tests.helpers import Looks, exact, source
from tests.players import TOLD, Leads, some_players, web_of

WEB = web_of(TOLD)
HALF = Frac(1, 2)
TWO = Web(["level", "level", "level"], [(0, 1, 1, 1), (0, 2, 1, 1)], [(0, 1)])
ONE = Web(["level", "level"], [(0, 1, 1, 2)], [(0, 1)])


def told_difference(one, other, count):
    """The first tick and entry at which the echo tables differ, in Python's own fractions, or None."""
    for tick, (first, second) in enumerate(zip(echoes(one, count), echoes(other, count))):
        for a, (row, beside) in enumerate(zip(exact(list(first)), exact(list(second)))):
            for b, (x, y) in enumerate(zip(row, beside)):
                if x != y:
                    return tick, a, b
    return None


class Players(Leads, Looks, unittest.TestCase):
    def alike_players(self, one, other, draw):
        """Everything that is promised of two players that are alike."""
        self.assertIsNone(first_difference(one, other))
        self.assertIs(alike(one, other), True)
        lead = lead_between(one, other)
        self.leads(draw, lead, one, other)
        for state in silent(one):
            self.same(lead(state), [0] * other.cells)
        heard, reached = list(heard_space(one)), heard_space(other)
        self.assertEqual(len(heard), len(reached))
        met = [lead(state) for state in heard]
        for k, state in enumerate(heard):
            self.assertIn(met[k], reached)
            for state_beside, met_beside in zip(heard[k:], met[k:]):
                self.assertEqual(other.product(met[k], met_beside), one.product(state, state_beside))
        paper = compare(one, other)
        self.assertIs(type(paper), Alike)
        self.assertIs(paper.YES, True)
        self.assertIs(paper.lead.first, one)
        self.assertIs(paper.lead.second, other)
        self.assertEqual(paper.lead.table, lead.table)

    def unlike_players(self, one, other):
        """Everything that is promised of two players that are not alike."""
        wanted = told_difference(one, other, 30)
        found = first_difference(one, other)
        self.assertEqual(found, wanted)
        self.assertEqual([type(found), *map(type, found)], [tuple, int, int, int])
        self.assertLessEqual(found[0], min(len(heard_space(one)), len(heard_space(other))))
        self.assertIs(alike(one, other), False)
        told = dict(zip(("at", "heard", "knocked"), wanted))
        self.refused(Unalike, told, lead_between, one, other)
        paper = compare(one, other)
        self.assertIs(type(paper), Unlike)
        self.assertIs(paper.YES, False)
        self.assertIs(paper.one, one)
        self.assertIs(paper.other, other)
        self.assertEqual((paper.at, paper.heard, paper.knocked), wanted)
        self.assertEqual([type(paper.at), type(paper.heard), type(paper.knocked)], [int] * 3)

    def looked_at(self, one, other, draw):
        if told_difference(one, other, min(one.cells, other.cells) + 5) is None:
            self.alike_players(one, other, draw)
            return True
        self.unlike_players(one, other)
        return False


class AlikePlayers(Players):
    def test_with_cores_and_piles(self):
        draw = source(1080)
        for player in [WEB, TWO, *some_players(draw, 0)]:
            others = [player, heard_part(player).second, Linked([Core.of(player)], [])]
            if player.ears == 1:
                others.append(pile_of(player))
            for other in others:
                self.alike_players(player, other, draw)
                self.alike_players(other, player, draw)

    def test_silent_cells_beside(self):
        draw = source(1081)
        ring = Web(["level", "stream"], [(0, 1, 1, 5)])
        for web in (TWO, ONE, web_of(TOLD)):
            self.alike_players(side_by_side(web, ring), web, draw)
            self.alike_players(web, side_by_side(ring, web, ring), draw)
            self.alike_players(side_by_side(web, ring), side_by_side(ring, web), draw)

    def test_known_lead(self):
        self.assertEqual(lead_between(TWO, ONE).table, Table([[HALF, 0, HALF, 0], [0, HALF, 0, HALF]]))
        self.assertEqual(lead_between(ONE, TWO).table, Table([[1, 0], [0, 1], [1, 0], [0, 1]]))
        pile = pile_of(ONE)
        self.assertEqual(lead_between(pile, pile).table, Table.unit(2))
        # Another lead between these webs does not take all silent states to 0.
        self.assertNotEqual(lead_between(TWO, TWO).table, Lead.same(TWO).table)

    def test_no_ears_or_cells(self):
        draw = source(1082)
        deaf = Web(["level", "level"], [(0, 1, 2, 3)])
        self.alike_players(deaf, Web(), draw)
        self.alike_players(Web(), deaf, draw)
        self.assertEqual(lead_between(deaf, TWO_DEAF).table, Table.zero(2, 4))
        self.alike_players(Web(["level"], [], [(0, 3)]), Pile([], strength=3), draw)
        self.unlike_players(Web(["level"], [], [(0, 3)]), Web(["stream"], [], [(0, 3)]))

    def test_largest(self):
        draw = source(1083)
        web = Web(["level"] * 3, [(0, 1, 6, 1), (0, 2, 6, 1)], [(0, 1)])
        self.alike_players(web, Web(["level"] * 2, [(0, 1, 6, 2)], [(0, 1)]), draw)
        long = Web(["level", "stream"], [(0, 1, 12, Frac(2, 3), -1)], [(0, 1), (1, HALF)])
        self.alike_players(long, Core.of(long), draw)


TWO_DEAF = Web(["stream"], [(0, 0, 1, 1)])


class UnlikePlayers(Players):
    def test_any(self):
        draw = source(1084)
        seen = {True: 0, False: 0}
        groups = {}
        for player in [WEB, TWO, ONE, *some_players(draw, 25)]:
            if player.ears <= 2:
                groups.setdefault(player.ears, []).append(player)
        for ears, players in groups.items():
            for one, other in zip(players, players[1:]):
                core = Core.of(other)
                given = Core(core.a, core.b, core.c, core.d, form=core.energy_form, strengths=core.strengths)
                if one.strengths == given.strengths:
                    seen[self.looked_at(one, given, draw)] += 1
        for player in [WEB, *(player for player in some_players(draw, 8) if isinstance(player, Web))]:
            if player.ears and player.rods:
                start, end, length, strength, twist = player.rods[0]
                for rod in ((start, end, length, strength * 2, twist), (start, end, length, strength, -twist)):
                    other = Web(player.joints, [rod, *player.rods[1:]], player.ear_list)
                    seen[self.looked_at(player, other, draw)] += 1
        self.assertGreater(min(seen.values()), 3)

    def test_late(self):
        """Players whose echoes differ as late as they can."""
        for count in (0, 1, 5, 23, 24):
            panes = [HALF, *[0] * 22, Frac(-1, 3)][:count]
            self.unlike_players(Pile(panes), Pile(panes, end=-1))
            self.assertEqual(first_difference(Pile(panes), Pile(panes, end=-1)), (count, 0, 0))
        self.assertEqual(first_difference(Pile([0] * 24), Pile([0] * 23 + [HALF])), (23, 0, 0))
        self.assertEqual(first_difference(Pile([0] * 24), Pile([0] * 23)), (23, 0, 0))
        long = Web(["level"] * 2, [(0, 1, 12, 1)], [(0, 1)])
        self.assertEqual(first_difference(long, dual(re_eared(long, 0, 1))), (24, 0, 0))

    def test_first_entry(self):
        """In lexicographic order: the ear that hears first, and then the ear that knocks."""
        web = Web(["level"] * 3, [(0, 1, 1, 2), (1, 2, 1, 2)], [(0, 1), (1, 1), (2, 1)])
        for rod, wanted in ((0, (0, 0, 0)), (1, (0, 1, 1))):
            rods = list(web.rods)
            rods[rod] = (*rods[rod][:3], 3)
            self.unlike_players(web, Web(web.joints, rods, web.ear_list))
            self.assertEqual(first_difference(web, Web(web.joints, rods, web.ear_list)), wanted)
        twisted = Web(web.joints, [(0, 1, 1, 2, -1), web.rods[1]], web.ear_list)
        self.unlike_players(web, twisted)
        self.assertEqual(first_difference(web, twisted), (1, 0, 1))
        self.unlike_players(ONE, stretched(ONE, 3))

    def test_do_not_agree(self):
        for call in (first_difference, alike, compare, lead_between):
            for other in (Web(), re_eared(ONE, 0, 2), Pile([], strength=HALF), Web(["level"], [], [(0, 1), (0, 1)]),
                          WEB, Core.of(re_eared(TWO, 0, 2)), Linked([re_eared(TWO, 0, 2)], [])):
                self.refused(Mismatch, {}, call, ONE, other)
                self.refused(Mismatch, {}, call, other, ONE)
        crossed = Web(["level"], [], [(0, 1), (0, 2)]), Web(["level"], [], [(0, 2), (0, 1)])
        for call in (first_difference, alike, compare, lead_between):
            self.refused(Mismatch, {}, call, *crossed)

    def test_truth(self):
        self.assertIs(alike(TWO, ONE), True)
        self.assertIs(alike(TWO, Pile([])), False)


if __name__ == "__main__":
    unittest.main()
