"""Point 98, with points 17, 27 and 49: peel, pile_of, begins, next_stretch."""

import unittest
from fractions import Fraction

from rodwebs.cores import Core
from rodwebs.errors import BadCount, NoEcho
from rodwebs.fracs import Frac
from rodwebs.heardparts import heard_space
from rodwebs.papers import Begins, Louder
from rodwebs.peeling import begins, next_stretch, peel, pile_of
from rodwebs.piles import Pile
from rodwebs.runs import echo, sounded
from rodwebs.tables import Table
from rodwebs.webs import Web
from tests.helpers import Looks, exact, frac, fracs, source
from tests.players import TOLD, pile_of_told, some_players, web_of
from tests.told import ToldPile, some_pane, some_pile, told_webs

HALF = Frac(1, 2)


class Peeling(Looks, unittest.TestCase):
    def test_piles(self):
        draw = source(980)
        for count in (0, 1, 2, 5, 9):
            told = some_pile(draw, count)
            for known in range(count + 4):
                given = peel(tuple(fracs(told.echoes(known))))
                self.assertEqual([type(given), type(given[0])], [tuple, tuple])
                self.same(given[0], told.panes[:known])
                self.assertEqual(given[1], told.end if known > count else None)
                self.assertIn(type(given[1]), (int, type(None)))

    def test_any_number_of_panes(self):
        panes = [Fraction((-1) ** k, 3 + k % 4) for k in range(40)]
        numbers = ToldPile(panes, -1).echoes(45)
        self.same(peel(fracs(numbers[:40]))[0], panes)
        self.assertEqual(peel(fracs(numbers[:40]))[1], None)
        self.same(peel(fracs(numbers))[0], panes)
        self.assertEqual(peel(fracs(numbers))[1], -1)

    def test_edges(self):
        self.assertEqual(peel([]), ((), None))
        self.assertEqual(peel([1]), ((), 1))
        self.assertEqual(peel([-1]), ((), -1))
        self.assertEqual(peel([Frac(-1), 0, 0]), ((), -1))
        near = Frac(10 ** 59 - 1, 10 ** 59)
        self.assertEqual(peel([near]), ((near,), None))
        self.assertEqual(peel([-near]), ((-near,), None))
        self.assertEqual(peel([0] * 100), ((0,) * 100, None))
        self.assertEqual(peel([0] * 99 + [-1]), ((0,) * 99, -1))
        self.all_fracs(peel([0, 0])[0])

    def test_too_many(self):
        self.refused(BadCount, {"count": 101}, peel, [2] * 101)
        self.refused(BadCount, {"count": 101}, next_stretch, [2] * 101)

    def test_no_echo(self):
        for call in (peel, next_stretch):
            for number in (2, -2, Frac(-5, 4), Frac(10 ** 59 + 1, 10 ** 59)):
                self.refused(NoEcho, {"index": 0}, call, [number])
                self.refused(NoEcho, {"index": 0}, call, [number, 0, 5])
                self.refused(NoEcho, {"index": 3}, call, [0, 0, 0, number, 7])
            self.refused(NoEcho, {"index": 1}, call, [1, Frac(1, 10 ** 20)])
            self.refused(NoEcho, {"index": 3}, call, [-1, 0, 0, -1, 1])
            self.refused(NoEcho, {"index": 1}, call, [HALF, Frac(4, 5)])
            self.refused(NoEcho, {"index": 99}, call, [0] * 99 + [2])

    def test_no_echo_behind_the_end(self):
        draw = source(981)
        for count in (0, 1, 4):
            numbers = fracs(some_pile(draw, count).echoes(count + 6))
            for at in range(count + 1, count + 6):
                spoiled = list(numbers)
                spoiled[at] = spoiled[at] + Frac(1, 1000)
                self.refused(NoEcho, {"index": at}, peel, spoiled)
                self.refused(NoEcho, {"index": at}, next_stretch, spoiled)

    def test_nothing_changes(self):
        numbers = [HALF, 0, 0]
        peel(numbers)
        next_stretch(numbers)
        begins(numbers)
        self.assertEqual(numbers, [HALF, 0, 0])


class PileOf(Looks, unittest.TestCase):
    def one_eared(self, draw):
        for player in some_players(draw, 25):
            if player.ears == 1:
                yield player

    def test_alike(self):
        draw = source(982)
        some = 0
        for player in self.one_eared(draw):
            pile = pile_of(player)
            self.assertIs(type(pile), Pile)
            self.assertEqual(pile.strengths, player.strengths)
            self.assertEqual(len(pile), len(heard_space(player)))
            self.assertEqual(pile.echo(player.cells + 4), echo(player, player.cells + 4))
            some += len(pile) > 2
        self.assertGreater(some, 5)

    def test_itself(self):
        draw = source(983)
        for count in range(6):
            pile = pile_of_told(some_pile(draw, count))
            self.assertEqual(pile_of(pile), pile)
            self.assertEqual(pile_of(Core.of(pile)), pile)
        long = Pile([HALF, Frac(-1, 3)] * 12, end=-1, strength=7)
        self.assertEqual(pile_of(long), long)

    def test_known(self):
        self.assertEqual(pile_of(Web(["level", "level"], [(0, 1, 1, 1)], [(0, 3)])), Pile([HALF, 0], strength=3))
        self.assertEqual(pile_of(Web(["stream"], [], [(0, 3)])), Pile([], end=-1, strength=3))
        pile = Pile([HALF, Frac(1, 3)], strength=2)
        self.assertEqual(pile_of(pile.as_web()), pile.spread(2))

    def test_beside_a_silent_part(self):
        core = Core.of(Pile([HALF, Frac(1, 3)], strength=2)).beside(Core.of(Web(["level"], [(0, 0, 3, 1)])))
        self.assertEqual(core.cells, 8)
        self.assertEqual(pile_of(core), Pile([HALF, Frac(1, 3)], strength=2))

    def test_steady_knocks(self):
        """Point 25: what is heard of steady and of alternating knocks comes near to the end of the pile, or not."""
        for panes, end in (([HALF], 1), ([HALF], -1), ([Frac(1, 3), 0], 1), ([Frac(1, 3), 0], -1)):
            pile = Pile(panes, end=end)
            heard = exact(echo(pile, 60))
            self.assertLess(abs(sum(heard) - end), Fraction(1, 10 ** 6))
            other = sum(x * (-1) ** k for k, x in enumerate(heard))
            self.assertLess(abs(other - end * (-1) ** len(panes)), Fraction(1, 10 ** 6))

    def test_refused(self):
        for player in (web_of(TOLD), Web(), Web(["level"], [], [(0, 1)] * 4)):
            self.refused(BadCount, {"count": player.ears}, pile_of, player)


class Beginning(Looks, unittest.TestCase):
    def begun(self, numbers):
        paper = begins(numbers)
        self.assertIs(type(paper), Begins)
        self.assertIs(paper.YES, True)
        self.same(paper.numbers, exact(numbers))
        self.assertIs(type(paper.pile), Pile)
        self.same(paper.pile.strengths, [1])
        self.assertEqual(paper.pile.echo(len(numbers)), list(paper.numbers))
        return paper.pile

    def louder(self, numbers):
        paper = begins(numbers)
        self.assertIs(type(paper), Louder)
        self.assertIs(paper.YES, False)
        self.assertEqual([type(paper.numbers), type(paper.knocks)], [tuple, tuple])
        self.same(paper.numbers, exact(numbers))
        self.all_fracs(paper.knocks)
        self.assertEqual(len(paper.knocks), len(numbers))
        knocks, told = exact(paper.knocks), exact(numbers)
        heard = [sum(told[k - j] * knocks[j] for j in range(k + 1)) for k in range(len(told))]
        self.assertGreater(sum(x * x for x in heard), sum(x * x for x in knocks))

    def test_begins(self):
        draw = source(984)
        for count in (0, 1, 3, 6):
            told = some_pile(draw, count)
            for known in range(count + 4):
                pile = self.begun(tuple(fracs(told.echoes(known))))
                if known > count:
                    self.assertEqual(pile, Pile(fracs(told.panes), end=told.end))

    def test_edges(self):
        self.begun([])
        self.assertEqual(self.begun([1]), Pile([]))
        self.assertEqual(self.begun([-1, 0]), Pile([], end=-1))
        self.begun([0] * 24)
        self.begun([Frac(10 ** 59 - 1, 10 ** 59)])
        self.refused(BadCount, {"count": 25}, begins, [0] * 25)
        self.refused(BadCount, {"count": 25}, begins, [2] * 25)

    def test_louder(self):
        for numbers in ([2], [-2], [Frac(10 ** 59 + 1, 10 ** 59)], [1, Frac(1, 100)], [-1, 0, 0, 3], [HALF, Frac(4, 5)],
                        [0] * 23 + [Frac(-11, 10)], [0, 1, 0, 1], [3, 0, 0], [HALF] * 24):
            self.louder(numbers)

    def test_louder_echoes_spoiled(self):
        draw = source(985)
        for count in (1, 3):
            numbers = fracs(some_pile(draw, count).echoes(count + 4))
            for at in range(count + 1, count + 4):
                for change in (Frac(1, 50), Frac(-3)):
                    spoiled = list(numbers)
                    spoiled[at] = spoiled[at] + change
                    self.louder(spoiled)


class Stretches(Looks, unittest.TestCase):
    def looked_at(self, numbers):
        given = next_stretch(numbers)
        self.assertIs(type(given), tuple)
        self.all_fracs(given)
        least, greatest = given
        step = Frac(1, 10 ** 9)
        for number in (least, greatest, (least + greatest) * HALF):
            self.assertLessEqual(len(peel([*numbers, number])[0]), len(numbers) + 1)
        for number in (least - step, greatest + step):
            self.refused(NoEcho, {"index": len(numbers)}, peel, [*numbers, number])
        return given

    def test_open(self):
        draw = source(986)
        for count in (0, 1, 2, 5):
            numbers = fracs(some_pile(draw, count).echoes(count))
            least, greatest = self.looked_at(tuple(numbers))
            self.assertLess(least, greatest)
            self.assertEqual({peel([*numbers, least])[1], peel([*numbers, greatest])[1]}, {1, -1})
            self.assertEqual(peel([*numbers, (least + greatest) * HALF])[1], None)
            pane = some_pane(draw)
            told = ToldPile([*exact(peel(numbers)[0]), pane])
            self.assertLess(least, frac(told.echoes(count + 1)[-1]))
            self.assertGreater(greatest, frac(told.echoes(count + 1)[-1]))

    def test_closed(self):
        draw = source(987)
        for count in (0, 1, 3):
            told = some_pile(draw, count)
            for known in range(count + 1, count + 5):
                least, greatest = self.looked_at(fracs(told.echoes(known)))
                self.assertEqual(least, greatest)
                self.one(least, told.echoes(known + 1)[-1])

    def test_known(self):
        self.same(next_stretch([]), [-1, 1])
        self.same(next_stretch([HALF]), [Fraction(-3, 4), Fraction(3, 4)])
        self.same(next_stretch([HALF, Frac(3, 8)]), [Fraction(-21, 32), Fraction(15, 32)])
        self.same(next_stretch([1]), [0, 0])
        self.same(next_stretch([HALF, Frac(3, 4)]), [Fraction(-3, 8), Fraction(-3, 8)])
        self.same(next_stretch([0] * 100), [-1, 1])
        self.same(next_stretch([0] * 99 + [1]), [0, 0])

    def test_sounds(self):
        """What is heard never has more energy than the knocks, up to the ends of the stretch."""
        numbers = [HALF, Frac(1, 5)]
        for number in next_stretch(numbers):
            heard = sounded([Table([[x]]) for x in [*numbers, number]], [[3], [-2], [5]])
            self.assertLessEqual(sum(exact(x[0]) ** 2 for x in heard), 38)


class Webs(Looks, unittest.TestCase):
    def test_echoes_of_webs_begin(self):
        draw = source(988)
        for told in told_webs(draw, 10):
            if len(told.ears) == 1 and told.cells <= 16:
                numbers = echo(web_of(told), 24)
                paper = begins(numbers)
                self.assertIs(type(paper), Begins)
                self.assertEqual(paper.pile.echo(24), numbers)


if __name__ == "__main__":
    unittest.main()
