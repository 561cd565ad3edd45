"""Points 103 and 104, with point 32: told_space, tell, least_tick, together, in_common, fewest_ears."""

import itertools
import unittest
from fractions import Fraction

from rodwebs.cores import Core
from rodwebs.errors import BadCount, BadOrder, BadSizes, NoEar
from rodwebs.fracs import Frac
from rodwebs.heardparts import unheard
from rodwebs.papers import Ghost, Told
from rodwebs.piles import Pile
from rodwebs.runs import play
from rodwebs.spaces import Space
from rodwebs.told import fewest_ears, in_common, least_tick, tell, together, told_space
from rodwebs.webs import Web
from tests.helpers import Looks, exact, fracs, rank_of, source
from tests.players import TOLD, some_players, units, web_of
from tests.told import ToldWeb, heard_columns, some_state, told_webs

WEB = web_of(TOLD)
HALF = Frac(1, 2)
# Three ears: the first two at one joint, the third at the far end.
THREE = Web(["level", "stream", "level"], [(0, 1, 1, 2), (1, 2, 2, 1, -1)], [(0, 1), (0, 3), (2, HALF)])


def measure_of(numbers, state):
    return sum((x * y for x, y in zip(exact(numbers), exact(state))), Fraction(0))


def small_players(draw, count=3):
    return [WEB, THREE, *(player for player in some_players(draw, count) if player.cells <= 6)]


def all_groups(count):
    for size in range(count + 1):
        yield from itertools.combinations(range(count), size)


class ToldSpaces(Looks, unittest.TestCase):
    def test_spaces(self):
        draw = source(1030)
        for told in [TOLD, *told_webs(draw, 6)]:
            if told.cells <= 10:
                for group in [None, *all_groups(len(told.ears))][:6]:
                    for ticks in (0, 1, 3, told.cells + 1):
                        space = told_space(web_of(told), ticks, ears=group)
                        self.assertIs(type(space), Space)
                        columns = heard_columns(told, ticks, group)
                        self.assertEqual((space.size, len(space)), (told.cells, rank_of(columns)))
                        # Each row of what is heard is a measure that is told.
                        for row in zip(*columns):
                            self.assertIn(fracs(row), space)

    def test_across_to_what_is_unheard(self):
        draw = source(1031)
        for player in some_players(draw, 4):
            for ticks in (0, 2, 5):
                told, hidden = told_space(player, ticks), unheard(player, ticks)
                self.assertEqual(len(told) + len(hidden), player.cells)
                for measure in told:
                    for state in hidden:
                        self.assertEqual(measure_of(measure, state), 0)

    def test_edges(self):
        self.assertEqual(told_space(WEB, 0), Space(8))
        self.assertEqual(told_space(WEB, 200, ears=[]), Space(8))
        self.assertEqual(told_space(WEB, 200), told_space(WEB, 8))
        self.assertEqual(told_space(Web(), 5), Space(0))
        self.assertEqual(told_space(Pile([HALF, 0]), 2), Space.whole(2))
        self.assertLess(len(told_space(WEB, 1)), len(told_space(WEB, 2)))

    def test_refused(self):
        for ticks in (-1, 201, 10 ** 30):
            self.refused(BadCount, {"count": ticks}, told_space, WEB, ticks, ears=[7])
        for ear in (2, -1, 10 ** 30):
            self.refused(NoEar, {"ear": ear}, told_space, WEB, 3, ears=[0, 0, ear])
        self.refused(BadOrder, {}, told_space, WEB, 3, ears=(1, 1))


class Telling(Looks, unittest.TestCase):
    def looked_at(self, draw, player, measure, ticks, ears):
        paper = tell(player, measure, ticks, ears=ears)
        group = tuple(range(player.ears)) if ears is None else tuple(ears)
        self.assertIs(paper.player, player)
        self.same(paper.measure, exact(measure))
        self.assertEqual((type(paper.ears), paper.ears), (tuple, group))
        hidden = unheard(player, ticks, ears=ears)
        if type(paper) is Told:
            self.assertIs(paper.YES, True)
            self.assertEqual(len(paper.weights), ticks)
            self.assertEqual([type(part) for part in (paper.weights, *paper.weights)], [tuple] * (ticks + 1))
            self.assertEqual({len(part) for part in paper.weights} - {len(group)}, set())
            self.all_fracs(paper.weights)
            for state in [*units(player.cells), fracs(some_state(draw, player.cells))]:
                heard = play(player, state, [[0] * player.ears] * ticks).heard_lists()
                value = sum((w * exact(numbers[ear]) for row, numbers in zip(exact(paper.weights), heard)
                             for w, ear in zip(row, group)), Fraction(0))
                self.assertEqual(value, measure_of(measure, state))
            self.assertTrue(all(measure_of(measure, state) == 0 for state in hidden))
        else:
            self.assertIs(type(paper), Ghost)
            self.assertIs(paper.YES, False)
            self.assertEqual((paper.ticks, type(paper.ticks)), (ticks, int))
            self.assertIs(type(paper.state), tuple)
            self.all_fracs(paper.state)
            self.assertIn(paper.state, hidden)
            self.assertNotEqual(measure_of(measure, paper.state), 0)
        return paper

    def test_any(self):
        draw = source(1032)
        seen = {Told: 0, Ghost: 0}
        for player in small_players(draw):
            groups = [None, [], *([ear] for ear in range(player.ears)), list(range(player.ears))[::-1]]
            for ticks in (0, 2, player.cells + 3):
                for group in groups:
                    for measure in (fracs(some_state(draw, player.cells)), [0] * player.cells):
                        seen[type(self.looked_at(draw, player, measure, ticks, group))] += 1
                    for measure in list(told_space(player, ticks, ears=group))[:2]:
                        self.assertIs(type(self.looked_at(draw, player, measure, ticks, group)), Told)
        self.assertGreater(min(seen.values()), 20)

    def test_no_ticks(self):
        paper = tell(WEB, [0] * 8, 0)
        self.assertEqual((type(paper), paper.weights, paper.ears), (Told, (), (0, 1)))
        self.assertIs(type(tell(WEB, [0] * 7 + [1], 0)), Ghost)
        self.assertEqual(tell(Web(), [], 3).weights, ((), (), ()))

    def test_no_ears(self):
        paper = tell(WEB, [0] * 8, 4, ears=())
        self.assertEqual((type(paper), paper.weights, paper.ears), (Told, ((), (), (), ()), ()))
        self.assertIs(type(tell(WEB, [1] + [0] * 7, 200, ears=[])), Ghost)

    def test_many_ticks(self):
        pile = Pile([HALF, 0, Frac(-1, 3)])
        paper = tell(pile, (1, 2, 3), 200)
        self.assertEqual((type(paper), len(paper.weights)), (Told, 200))
        draw = source(1033)
        self.looked_at(draw, Core.of(pile), [1, 2, 3], 20, None)
        large = Web(["level"] * 2, [(0, 1, 12, 2)], [(0, 1), (1, 3)])
        self.looked_at(draw, large, list(range(24)), 24, [1, 0])

    def test_order_of_ears(self):
        draw = source(1034)
        measure = list(told_space(THREE, 3, ears=[0, 2]))[1]
        for ears in ([2, 0], (0, 2), [2, 1, 0]):
            paper = self.looked_at(draw, THREE, measure, 3, ears)
            self.assertIs(type(paper), Told)

    def test_refused(self):
        for given in (0, 7, 9):
            self.refused(BadSizes, {"given": given, "wanted": 8}, tell, WEB, [1] * given, -1, ears=[7])
            self.refused(BadSizes, {"given": given, "wanted": 8}, least_tick, WEB, [1] * given, ears=[7])
        for ticks in (-1, 201, 10 ** 30):
            self.refused(BadCount, {"count": ticks}, tell, WEB, [1] * 8, ticks, ears=[7])
        for call in (lambda ears: tell(WEB, [1] * 8, 3, ears=ears), lambda ears: tell(WEB, [0] * 8, 0, ears=ears),
                     lambda ears: least_tick(WEB, [1] * 8, ears=ears)):
            for ear in (2, -1, 10 ** 30):
                self.refused(NoEar, {"ear": ear}, call, [1, 1, ear])
            self.refused(BadOrder, {}, call, [0, 1, 0])

    def test_nothing_changes(self):
        measure, ears = [0] * 8, [1, 0]
        paper = tell(WEB, measure, 2, ears=ears)
        measure[0] = 5
        ears.clear()
        self.same(paper.measure, [0] * 8)
        self.assertEqual(paper.ears, (1, 0))


class LeastTicks(Looks, unittest.TestCase):
    def test_any(self):
        draw = source(1035)
        seen = set()
        for player in small_players(draw):
            for group in [None, [], *([ear] for ear in range(player.ears))]:
                spaces = [told_space(player, ticks, ears=group) for ticks in range(player.cells + 1)]
                for measure in [*units(player.cells)[:3], [0] * player.cells, *list(spaces[-1])[:4]]:
                    wanted = next((ticks for ticks, space in enumerate(spaces) if measure in space), None)
                    given = least_tick(player, measure, ears=group)
                    self.assertEqual((given, type(given)), (wanted, type(wanted)))
                    seen.add(wanted)
        self.assertGreater(len(seen), 5)

    def test_known(self):
        self.assertEqual(least_tick(Pile([0, 0, 0]), [0, 0, 0]), 0)
        for cell in range(3):
            self.assertEqual(least_tick(Pile([0, 0, 0]), units(3)[cell]), cell + 1)
        long = Web(["level"] * 2, [(0, 1, 12, 2)], [(0, 1)])
        self.assertEqual(least_tick(long, units(24)[0]), 24)
        self.assertEqual(least_tick(long, units(24)[23]), 1)
        self.assertEqual(least_tick(Web(), []), 0)
        self.assertIsNone(least_tick(long, units(24)[0], ears=[]))
        self.assertEqual(least_tick(long, [0] * 24, ears=[]), 0)
        two = Web(["level"] * 3, [(0, 1, 1, 1), (0, 2, 1, 1)], [(0, 1)])
        self.assertIsNone(least_tick(two, [0, 1, 0, 0]))
        self.assertEqual(least_tick(two, [0, 1, 0, 1]), 1)
        self.assertEqual(least_tick(two, (1, 0, 1, 0)), 2)


class Groups(Looks, unittest.TestCase):
    def test_together(self):
        for ticks in (0, 1, 2, 6):
            for groups in itertools.product([None, [], [0], [1], (2, 0), [1, 2]], repeat=2):
                whole = {ear for group in groups for ear in ([0, 1, 2] if group is None else group)}
                given = together(THREE, ticks, *groups)
                self.assertIs(type(given), Space)
                self.assertEqual(given, told_space(THREE, ticks, ears=sorted(whole)))

    def test_in_common(self):
        for ticks in (0, 1, 2, 6):
            for groups in itertools.product([None, [], [0], [1], (2, 0), [1, 2]], repeat=2):
                given = in_common(THREE, ticks, *groups)
                self.assertIs(type(given), Space)
                one, other = [told_space(THREE, ticks, ears=group) for group in groups]
                self.assertEqual(given, one & other)

    def test_how_many_groups(self):
        for call in (together, in_common):
            self.assertEqual(call(THREE, 2, [0]), told_space(THREE, 2, ears=[0]))
            self.assertEqual(call(THREE, 2, None), told_space(THREE, 2))
        self.assertEqual(together(THREE, 3, [0], [1], [2]), told_space(THREE, 3))
        self.assertEqual(in_common(THREE, 3, [2, 0], [1, 2], None), in_common(THREE, 3, [0, 2], [2, 1]))
        self.assertNotEqual(in_common(THREE, 3, [2], [0]), in_common(THREE, 3, [2]))
        # Ears at one joint hear the same, but for what they knock.
        self.assertEqual(in_common(THREE, 2, [0], [1]), told_space(THREE, 2, ears=[0]))

    def test_refused(self):
        for call in (together, in_common):
            for ticks in (-1, 201, 10 ** 30):
                self.refused(BadCount, {"count": ticks}, call, THREE, ticks)
                self.refused(BadCount, {"count": ticks}, call, THREE, ticks, [9])
            self.refused(BadCount, {"count": 0}, call, THREE, 2)
            self.refused(NoEar, {"ear": 3}, call, THREE, 2, [0], [1, 1, 3], [-1])
            self.refused(BadOrder, {}, call, THREE, 2, None, [1, 1], [-1])
            self.refused(NoEar, {"ear": -1}, call, THREE, 0, [], [-1], [1, 1])
            self.assertEqual(len(call(THREE, 200, None)), 6)

    def test_fewest_ears(self):
        draw = source(1036)
        seen = set()
        for told in [TOLD, ToldWeb(["level"], [], [(0, Fraction(1))]), *told_webs(draw, 25)]:
            if told.cells <= 8:
                given = fewest_ears(web_of(told))
                wanted = next((group for group in all_groups(len(told.ears))
                               if rank_of(heard_columns(told, told.cells, group)) == told.cells), None)
                self.assertEqual((given, type(given)), (wanted, type(wanted)))
                seen.add(wanted)
        self.assertGreater(len(seen), 2)

    def test_fewest_ears_known(self):
        self.assertEqual(fewest_ears(Web()), ())
        self.assertEqual(fewest_ears(Web(["level"], [], [(0, 1)] * 4)), ())
        self.assertIsNone(fewest_ears(Web(["level"] * 2, [(0, 1, 1, 1)])))
        self.assertEqual(fewest_ears(THREE), (0,))
        apart = Web(["level"] * 4, [(0, 1, 1, 1), (2, 3, 1, 1)], [(3, 2), (0, 5), (1, 3), (2, 7)])
        self.assertEqual(fewest_ears(apart), (0, 1))
        later = Web(["level"] * 4, [(0, 1, 1, 1), (2, 3, 1, 1)], [(0, 2), (0, 5), (1, 3), (2, 7)])
        self.assertEqual(fewest_ears(later), (0, 3))
        spread = Web(["level"] * 6, [(0, 1, 1, 1), (2, 3, 1, 1), (4, 5, 1, 1)], [(4, 2), (0, 5), (1, 3), (2, 7)])
        self.assertEqual(fewest_ears(spread), (0, 1, 3))
        self.assertIsNone(fewest_ears(Web(["level"] * 3, [(0, 1, 1, 1), (0, 2, 1, 1)], [(0, 1)])))
        self.assertEqual(fewest_ears(Pile([HALF] * 5)), (0,))


if __name__ == "__main__":
    unittest.main()
