"""Point 106, with points 35 and 49: explanation."""

import unittest
from fractions import Fraction

from rodwebs.cores import Core
from rodwebs.errors import BadCount, BadSizes
from rodwebs.explaining import explanation
from rodwebs.fracs import Frac
from rodwebs.papers import Explained, Unexplained
from rodwebs.piles import Pile
from rodwebs.runs import play
from rodwebs.webs import Web
from tests.helpers import Looks, exact, frac, fracs, rank_of, source
from tests.players import TOLD, inner, some_knocks, some_players, units, web_of
from tests.told import some_state

WEB = web_of(TOLD)
HALF = Frac(1, 2)


def alone_columns(player, ticks):
    """For each cell what all ears hear, as one list, when the player is played alone from the state with 1 there."""
    silence = [[0] * player.ears] * ticks
    return [[x for row in exact(play(player, state, silence).heard_lists()) for x in row]
            for state in units(player.cells)]


def flat(lists):
    return [x for row in exact(lists) for x in row]


class Explaining(Looks, unittest.TestCase):
    def looked_at(self, player, heard, knocks=None):
        given = knocks if knocks is not None else [[0] * player.ears] * len(heard)
        paper = explanation(player, heard, knocks=knocks) if knocks is not None else explanation(player, heard)
        self.assertIs(paper.player, player)
        for kept, passed in ((paper.heard, heard), (paper.knocks, given)):
            self.assertEqual([type(part) for part in (kept, *kept)], [tuple] * (len(heard) + 1))
            self.same(kept, exact(passed))
        sounds = flat(play(player, player.rest(), given).heard_lists())
        left = [x - y for x, y in zip(flat(heard), sounds)]
        columns = alone_columns(player, len(heard))
        rows = [[column[k] for column in columns] for k in range(len(left))]
        possible = rank_of(rows) == rank_of([row + [x] for row, x in zip(rows, left)])
        self.assertIs(type(paper), Explained if possible else Unexplained)
        self.assertIs(paper.YES, possible)
        if possible:
            self.explained(player, paper, columns)
        else:
            self.unexplained(player, paper, columns, left)
        return paper

    def explained(self, player, paper, columns):
        self.assertIs(type(paper.state), tuple)
        self.all_fracs(paper.state)
        self.assertEqual(len(paper.state), player.cells)
        self.same(play(player, paper.state, paper.knocks).heard_lists(), exact(paper.heard))
        # The state of the least energy has the product 0 with each state that is unheard for these ticks, and so only
        # it is a sum of what the numbers heard at single ticks and ears are the products with.
        form = exact(list(player.form()))
        bent = [sum((row[k] * x for k, x in enumerate(exact(paper.state))), Fraction(0)) for row in form]
        rows = [[column[k] for column in columns] for k in range(len(columns[0]) if columns else 0)]
        self.assertEqual(rank_of([*rows, bent]), rank_of(rows))

    def unexplained(self, player, paper, columns, left):
        self.assertEqual([type(part) for part in (paper.weights, *paper.weights)], [tuple] * (len(paper.heard) + 1))
        self.assertEqual([len(numbers) for numbers in paper.weights], [player.ears] * len(paper.heard))
        self.all_fracs(paper.weights)
        weights = flat(paper.weights)
        for column in columns:
            self.assertEqual(sum(x * y for x, y in zip(weights, column)), 0)
        self.assertNotEqual(sum(x * y for x, y in zip(weights, left)), 0)

    def test_what_was_heard(self):
        draw = source(1060)
        for player in [WEB, *some_players(draw)]:
            for ticks in (0, 1, 2, player.cells // 2 + 1, min(player.cells + 1, 24)):
                start = fracs(some_state(draw, player.cells))
                knocks = some_knocks(draw, player, ticks)
                heard = play(player, start, knocks).heard_lists()
                paper = self.looked_at(player, heard, knocks)
                self.assertIs(type(paper), Explained)
                self.assertLessEqual(inner(player, paper.state, paper.state), inner(player, start, start))
                alone = play(player, start, [[0] * player.ears] * ticks).heard_lists()
                self.assertIs(type(self.looked_at(player, alone)), Explained)

    def test_what_was_not(self):
        draw = source(1061)
        seen = {Explained: 0, Unexplained: 0}
        for player in [WEB, *some_players(draw)]:
            for ticks in (1, 2, player.cells // 2 + 1, min(player.cells + 2, 24)):
                heard = some_knocks(draw, player, ticks)
                seen[type(self.looked_at(player, heard, some_knocks(draw, player, ticks)))] += 1
                seen[type(self.looked_at(player, heard))] += 1
        self.assertGreater(min(seen.values()), 20)

    def test_known(self):
        # Two equal rods at one joint: what is heard tells the sum of both, and the least state shares it out.
        two = Web(["level"] * 3, [(0, 1, 1, 1), (0, 2, 1, 1)], [(0, 1)])
        paper = explanation(two, [[4], [0]])
        self.same(paper.state, [0, 3, 0, 3])
        self.assertEqual(paper.knocks, ((0,), (0,)))
        self.same(explanation(two, [[4]], knocks=[[3]]).state, [0, Fraction(15, 4), 0, Fraction(15, 4)])
        # A joint without rods only sends back what is knocked.
        ear = Web(["level"], [], [(0, 1)])
        self.assertEqual(explanation(ear, [[3]], knocks=[[3]]).state, ())
        paper = self.looked_at(ear, [[3], [5]], [[3], [4]])
        self.assertEqual(paper.weights[0], (0,))

    def test_no_ticks_ears_or_cells(self):
        for player in (WEB, Web(), Pile([HALF, 0]), Web(["level"], [], [(0, 1)])):
            for knocks in (None, []):
                paper = explanation(player, [], knocks=knocks)
                self.assertIs(type(paper), Explained)
                self.assertEqual((paper.heard, paper.knocks, paper.state), ((), (), (0,) * player.cells))
        deaf = Web(["level", "level"], [(0, 1, 2, 3)])
        paper = self.looked_at(deaf, [[], []])
        self.assertEqual((paper.heard, paper.knocks, paper.state), (((), ()), ((), ()), (0,) * 4))
        self.looked_at(Web(), [(), []], ((), ()))

    def test_most_entries(self):
        draw = source(1062)
        large = Web(["level", "stream", "level"], [(0, 1, 5, frac("2/3"), -1), (1, 2, 6, 2), (2, 2, 1, 3)],
                    [(0, 1), (2, 3), (1, HALF), (1, 2)])
        for player in (large, Core.of(Pile([HALF, Frac(-1, 3)])), Pile([0] * 24)):
            start = fracs(some_state(draw, player.cells))
            knocks = some_knocks(draw, player, 24)
            heard = play(player, start, knocks).heard_lists()
            self.looked_at(player, heard, knocks)
            heard[-1][-1] = heard[-1][-1] + 1
            self.looked_at(player, tuple(heard), tuple(knocks))

    def test_refused(self):
        for count in (25, 26, 300):
            self.refused(BadCount, {"count": count}, explanation, WEB, [[1]] * count, knocks=[[1, 2, 3]])
        good = [[0, 0]] * 3
        for at in range(3):
            for given in (0, 1, 3):
                heard = list(good)
                heard[at] = [0] * given
                told = {"given": given, "wanted": 2}
                self.refused(BadSizes, told, explanation, WEB, heard)
                self.refused(BadSizes, told, explanation, WEB, [*heard, [0] * 5], knocks=[])
                self.refused(BadSizes, told, explanation, WEB, good, knocks=heard)
        for given in (0, 2, 4, 25):
            self.refused(BadSizes, {"given": given, "wanted": 3}, explanation, WEB, good, knocks=[[1]] * given)
        self.refused(BadSizes, {"given": 1, "wanted": 0}, explanation, WEB, [], knocks=[[0, 0]])
        self.refused(BadSizes, {"given": 1, "wanted": 0}, explanation, Web(), [[], [0]])

    def test_nothing_changes(self):
        heard, knocks = [[1, 2], (3, HALF)], [[0, 0], [5, 6]]
        papers = [explanation(WEB, heard, knocks=knocks), explanation(WEB, heard)]
        self.assertEqual((heard, knocks), ([[1, 2], (3, HALF)], [[0, 0], [5, 6]]))
        heard[0][0] = knocks[1][1] = 9
        self.same(papers[0].heard, [[1, 2], [3, Fraction(1, 2)]])
        self.same(papers[0].knocks, [[0, 0], [5, 6]])
        self.same(papers[1].knocks, [[0, 0], [0, 0]])


if __name__ == "__main__":
    unittest.main()
