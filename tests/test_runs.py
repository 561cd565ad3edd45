"""Points 84 to 86, with points 12, 13, 15, 16, 47 and 48: play, echoes, echo, sounded, play_back, mirrored."""

import unittest
from fractions import Fraction

from rodwebs.cores import Core
from rodwebs.errors import BadCount, BadSizes, Mismatch, NoEar, NotAWeb
from rodwebs.fracs import Frac
from rodwebs.heardparts import silent
from rodwebs.piles import Pile
from rodwebs.records import Record
from rodwebs.runs import echo, echoes, mirrored, play, play_back, sounded
from rodwebs.shapes import re_eared
from rodwebs.tables import Table
from rodwebs.ways import distances, ear_distance, odd_round
from rodwebs.webs import Web
from tests.helpers import Looks, exact, fracs, source
from tests.players import TOLD, some_players, web_of
from tests.told import ToldWeb, some_state, some_strength, some_told, told_webs

WEB = Web(["level", "stream"], [(0, 1, 1, 2)], [(0, 1)])
# A player with two ears and no cells: each hears half of what the other one knocks.
BARE = Web(["level"], [], [(0, 1), (0, 1)])


class Playing(Looks, unittest.TestCase):
    def test_play(self):
        draw = source(840)
        for told in told_webs(draw, 12):
            start = some_state(draw, told.cells)
            knocks = [some_state(draw, len(told.ears)) for _ in range(draw.randint(0, 7))]
            web = web_of(told)
            record = play(web, tuple(fracs(start)), tuple([tuple(fracs(numbers)) for numbers in knocks]))
            self.assertIs(type(record), Record)
            self.assertIs(record.player, web)
            self.same(record.begin(), start)
            self.same(record.knock_lists(), knocks)
            state = start
            for tick, numbers in enumerate(knocks):
                state, heard = told.tick(state, numbers)
                self.same(record[tick][1], heard)
            self.same(record.now(), state)

    def test_energy_over_runs(self):
        draw = source(841)
        for player in some_players(draw):
            start = fracs(some_state(draw, player.cells))
            record = play(player, start, [fracs(some_state(draw, player.ears)) for _ in range(9)])
            self.assertEqual(player.energy(start) + record.energy_in, record.energy_left + record.energy_out)

    def test_bounds(self):
        self.assertEqual(len(play(WEB, [1, 2], [])), 0)
        self.assertEqual(len(play(WEB, [1, 2], [[0]] * 200)), 200)
        self.refused(BadCount, {"count": 201}, play, WEB, [1, 2], [[0]] * 201)
        self.refused(BadCount, {"count": 300}, play, WEB, [1, 2], [[]] * 300)

    def test_refused(self):
        self.refused(BadSizes, {"given": 1, "wanted": 2}, play, WEB, [1], [[]] * 201)
        self.refused(BadSizes, {"given": 0, "wanted": 1}, play, WEB, [1, 2], [[1], [], [1, 2]])
        self.refused(BadSizes, {"given": 2, "wanted": 1}, play, WEB, [1, 2], [[1], [1, 2], []])

    def test_lists_stay_apart(self):
        start, knocks = [1, 2], [[1], [2]]
        record = play(WEB, start, knocks)
        now = record.now()
        start[0] = 7
        knocks[0][0] = 7
        knocks.clear()
        self.same(record.begin(), [1, 2])
        self.same(record.knock_lists(), [[1], [2]])
        self.assertEqual(record.now(), now)
        record.step([1])
        self.assertEqual(len(record), 3)


class Echoes(Looks, unittest.TestCase):
    def test_tables(self):
        draw = source(842)
        for told in told_webs(draw, 15):
            given = echoes(web_of(told), 7)
            self.assertIs(type(given), list)
            self.assertEqual([type(table) for table in given], [Table] * 7)
            self.assertEqual({(table.height, table.width) for table in given}, {(len(told.ears),) * 2})
            self.same([list(table) for table in given], told.echoes(7))

    def test_single_knocks(self):
        draw = source(843)
        for player in some_players(draw):
            given = echoes(player, 6)
            for knocked in range(player.ears):
                knocks = [[int(ear == knocked) for ear in range(player.ears)]] + [[0] * player.ears] * 5
                heard = play(player, player.rest(), knocks).heard_lists()
                self.assertEqual([table.column(knocked) for table in given], heard)

    def test_counts(self):
        self.assertEqual(echoes(WEB, 0), [])
        self.assertEqual(echoes(Web(), 2), [Table([]), Table([])])
        self.assertEqual(len(echoes(WEB, 200)), 200)
        self.same([list(table) for table in echoes(BARE, 2)], [[[0, 1], [1, 0]], [[0, 0], [0, 0]]])
        for count in (201, -1, 10 ** 30):
            self.refused(BadCount, {"count": count}, echoes, WEB, count)
            self.refused(BadCount, {"count": count}, echo, WEB, count, heard=5)

    def test_entries(self):
        draw = source(844)
        for told in told_webs(draw, 10):
            web, tables = web_of(told), told.echoes(5)
            for heard in range(len(told.ears)):
                for knocked in range(len(told.ears)):
                    given = echo(web, 5, heard=heard, knocked=knocked)
                    self.assertIs(type(given), list)
                    self.same(given, [table[heard][knocked] for table in tables])
            if told.ears:
                self.same(echo(web, 5), [table[0][0] for table in tables])

    def test_left_out_ears(self):
        told = ToldWeb(["level", "level"], [(0, 1, 1, Fraction(2), 1)], [(0, Fraction(1)), (1, Fraction(3))])
        web = web_of(told)
        self.same(echo(web, 4, heard=1), [table[1][0] for table in told.echoes(4)])
        self.same(echo(web, 4, knocked=1), [table[0][1] for table in told.echoes(4)])
        self.assertNotEqual(echo(web, 4, heard=1), echo(web, 4, knocked=1))
        self.assertEqual(echo(web, 0), [])
        self.assertEqual(len(echo(web, 200)), 200)

    def test_no_ear(self):
        for ear in (1, -1, 10 ** 30):
            self.refused(NoEar, {"ear": ear}, echo, WEB, 3, heard=ear)
            self.refused(NoEar, {"ear": ear}, echo, WEB, 3, knocked=ear)
            self.refused(NoEar, {"ear": ear}, echo, WEB, 3, heard=ear, knocked=7)
        for player in (Web(), Web(["level", "level"], [(0, 1, 1, 1)])):
            self.refused(NoEar, {"ear": 0}, echo, player, 3)
            self.refused(NoEar, {"ear": 0}, echo, player, 0)

    def test_new_lists(self):
        echoes(WEB, 3).clear()
        echo(WEB, 3)[0] = 7
        self.same(echo(WEB, 2), [Fraction(-1, 3), 0])


class Sounded(Looks, unittest.TestCase):
    def test_sums(self):
        draw = source(845)
        for player in some_players(draw):
            knocks = [some_state(draw, player.ears) for _ in range(6)]
            for count in (0, 1, 6):
                given = sounded(echoes(player, 6), tuple([tuple(fracs(numbers)) for numbers in knocks[:count]]))
                self.assertIs(type(given), list)
                self.assertEqual([type(numbers) for numbers in given], [list] * count)
                self.all_fracs(given)
                self.assertEqual(given, play(player, player.rest(), [fracs(x) for x in knocks[:count]]).heard_lists())

    def test_any_tables(self):
        tables = [Table([[1, 2], [3, 4]]), Table([[0, 1], [0, 0]]), Table([[5, 0], [0, 5]])]
        self.same(sounded(tables, [[1, 0], [0, 1], [1, 1]]), [[1, 3], [2, 4], [3 + 1 + 5, 7]])
        self.same(sounded([Table([[2]])] * 200, [[1]] + [[0]] * 199), [[2]] * 200)
        five = Table.unit(5)
        self.same(sounded([five], [[1, 2, 3, 4, 5]]), [[1, 2, 3, 4, 5]])

    def test_no_ears(self):
        self.assertEqual(sounded([], []), [])
        self.assertEqual(sounded([Table([])] * 3, [[], []]), [[], []])

    def test_refused(self):
        square = Table([[1, 2], [3, 4]])
        self.refused(Mismatch, {}, sounded, [square, Table([[1]])], [[1]] * 3)
        self.refused(Mismatch, {}, sounded, [square, Table([])], [])
        self.refused(Mismatch, {}, sounded, [Table([[1, 2]])], [[1]] * 3)
        self.refused(Mismatch, {}, sounded, [Table([], width=1)], [])
        self.refused(BadCount, {"count": 3}, sounded, [square, square], [[1], [1, 2], [1, 2]])
        self.refused(BadCount, {"count": 1}, sounded, [], [[]])
        self.refused(BadSizes, {"given": 1, "wanted": 2}, sounded, [square, square], [[1, 2], [1]])
        self.refused(BadSizes, {"given": 3, "wanted": 2}, sounded, [square, square], [[1, 2, 3], [1]])
        self.refused(BadSizes, {"given": 1, "wanted": 0}, sounded, [Table([])], [[1]])


class Back(Looks, unittest.TestCase):
    def test_runs_taken_back(self):
        draw = source(846)
        for player in some_players(draw):
            start = fracs(some_state(draw, player.cells))
            record = play(player, start, [fracs(some_state(draw, player.ears)) for _ in range(5)])
            again = play_back(player, tuple(record.now()), tuple(record.heard_lists()))
            self.assertIs(type(again), Record)
            self.assertIs(again.player, player)
            self.assertEqual(list(again.states()), list(record.states()))
            self.assertEqual(list(again), list(record))

    def test_any_end(self):
        draw = source(847)
        for told in told_webs(draw, 8):
            end = some_state(draw, told.cells)
            heard = [some_state(draw, len(told.ears)) for _ in range(4)]
            record = play_back(web_of(told), fracs(end), [fracs(numbers) for numbers in heard])
            self.same(record.heard_lists(), heard)
            self.same(record.now(), end)
            state = exact(record.begin())
            for tick, knocks in enumerate(exact(record.knock_lists())):
                state, given = told.tick(state, knocks)
                self.assertEqual(given, heard[tick])
            self.assertEqual(state, end)

    def test_bounds_and_order(self):
        self.assertEqual(len(play_back(WEB, [1, 2], [])), 0)
        self.assertEqual(len(play_back(WEB, [1, 0], [[0]] * 200)), 200)
        self.refused(BadCount, {"count": 201}, play_back, WEB, [1, 2], [[]] * 201)
        self.refused(BadSizes, {"given": 3, "wanted": 2}, play_back, WEB, [1, 2, 3], [[]] * 201)
        self.refused(BadSizes, {"given": 0, "wanted": 1}, play_back, WEB, [1, 2], [[1], [], [1, 2]])
        self.refused(BadSizes, {"given": 2, "wanted": 1}, play_back, WEB, [1, 2], [[1], [1, 2], []])

    def test_lists_stay(self):
        end, heard = [1, 2], [[1], [2]]
        record = play_back(WEB, end, heard)
        self.assertEqual((end, heard), ([1, 2], [[1], [2]]))
        end[0] = heard[0][0] = 9
        self.same(record.now(), [1, 2])
        self.same(record.heard_lists(), [[1], [2]])


class Mirrored(Looks, unittest.TestCase):
    def test_mirrored(self):
        draw = source(848)
        for told in told_webs(draw, 12):
            web = web_of(told)
            record = play(web, fracs(some_state(draw, told.cells)),
                          [fracs(some_state(draw, len(told.ears))) for _ in range(5)])
            before = (list(record), list(record.states()))
            other = mirrored(record)
            self.assertIs(type(other), Record)
            self.assertIs(other.player, web)
            self.same(other.begin(), told.flip(exact(record.now())))
            self.same(other.now(), told.flip(exact(record.begin())))
            self.assertEqual(other.knock_lists(), record.heard_lists()[::-1])
            self.assertEqual(other.heard_lists(), record.knock_lists()[::-1])
            self.assertEqual((list(record), list(record.states())), before)

    def test_without_ticks(self):
        other = mirrored(Record(WEB, [1, 2]))
        self.assertEqual(len(other), 0)
        self.same(other.now(), [2, 1])

    def test_not_a_web(self):
        for player in (Pile([Frac(1, 2)]), Core.of(WEB)):
            self.refused(NotAWeb, {}, mirrored, Record(player, player.rest()))


class PlainWebs(Looks, unittest.TestCase):
    """Point 47."""

    def plain(self, draw, count):
        for _ in range(count):
            told = some_told(draw, draw.randint(2, 5), draw.randint(0, 4), 2, 3)
            told.joints = ["level"] * len(told.joints)
            told.rods = [(*rod[:4], 1) for rod in told.rods]
            yield told, web_of(told)

    def test_content(self):
        draw = source(470)
        for told, web in self.plain(draw, 20):
            state, knocks = some_state(draw, told.cells), some_state(draw, 2)
            record = play(web, fracs(state), [fracs(knocks)])
            ears = [strength for _, strength in told.ears]

            def content(numbers, strengths):
                return sum(z * x for z, x in zip(strengths, exact(numbers)))

            now = content(record.now(), told.cell_strengths()) + content(record.heard_lists()[0], ears)
            self.assertEqual(now, content(state, told.cell_strengths()) + content(knocks, ears))

    def test_first_echo(self):
        draw = source(471)
        some = {True: 0, False: 0}
        for told, web in self.plain(draw, 40):
            far = ear_distance(web, 0, 1)
            given = echo(web, 12, heard=0, knocked=1)
            some[far is None] += 1
            if far is None:
                self.assertEqual(set(map(str, given)), {"0"})
            else:
                self.assertEqual([str(x) for x in given[:far]], ["0"] * far)
                self.assertGreater(given[far], 0)
        self.assertGreater(min(some.values()), 3)

    def test_odd_ticks(self):
        draw = source(472)
        some = {True: 0, False: 0}
        for told, web in self.plain(draw, 40):
            least = odd_round(web, 0)
            odd = echo(web, 24)[1::2]
            some[least is None] += 1
            if least is None:
                self.assertTrue(all(x == 0 for x in odd))
            else:
                self.assertTrue(all(x == 0 for x in odd[:least // 2]))
                self.assertGreater(odd[least // 2], 0)
        self.assertGreater(min(some.values()), 3)

    def test_a_rod_made_stronger(self):
        draw = source(473)
        some = {True: 0, False: 0}
        for told, web in self.plain(draw, 12):
            for rod, (start, end, length, strength, _) in enumerate(told.rods):
                rods = list(web.rods)
                rods[rod] = (start, end, length, Frac(3 * strength.numerator, strength.denominator))
                other = Web(web.joints, rods, web.ear_list)
                near = distances(web, told.ears[0][0])[start] is not None
                some[near] += 1
                # With 1/4 ** tick as weights all that is heard behind tick 40 counts less than 4 ** -39.
                pairs = zip(exact(echo(web, 40)), exact(echo(other, 40)))
                less = sum((x - y) * Fraction(1, 4) ** k for k, (x, y) in enumerate(pairs))
                if near:
                    self.assertGreater(less, Fraction(1, 4) ** 38)
                else:
                    self.assertEqual(echo(web, 40), echo(other, 40))
        self.assertGreater(min(some.values()), 3)


class AllWebs(Looks, unittest.TestCase):
    """Point 48."""

    def test_exchanged_ears(self):
        draw = source(480)
        for told in told_webs(draw, 20):
            web = web_of(told)
            strong = Table.diagonal(web.strengths)
            for table in echoes(web, 8):
                self.assertEqual(strong * table, (strong * table).transposed())

    def test_silent_states(self):
        draw = source(481)
        for told in [TOLD, *told_webs(draw, 20)]:
            web = other = web_of(told)
            for ear in range(web.ears):
                strength = some_strength(draw)
                other = re_eared(other, ear, Frac(strength.numerator, strength.denominator))
            self.assertEqual(list(silent(web)), list(silent(other)))
            joints = {joint for joint, _ in told.ears}
            for state in silent(web):
                for _ in range(4):
                    common = web.commons(state, [0] * web.ears)
                    self.assertTrue(all(common[joint] == 0 for joint in joints))
                    state = web.tick(state, [0] * web.ears)[0]

    def test_each_cell_is_filled(self):
        draw = source(482)
        for told in [TOLD, *(web for web in told_webs(draw, 6) if web.cells <= 10)]:
            for ticks in (0, 1, 3):
                sums = [Fraction(0)] * told.cells
                sizes = told.cell_strengths()
                silence = [[Fraction(0)] * len(told.ears)] * ticks
                starts = [([Fraction(int(k == cell)) for k in range(told.cells)], silence, sizes[cell])
                          for cell in range(told.cells)]
                for ear, (_, strength) in enumerate(told.ears):
                    for tick in range(ticks):
                        knocks = [list(row) for row in silence]
                        knocks[tick][ear] = Fraction(1)
                        starts.append(([Fraction(0)] * told.cells, knocks, strength))
                for state, knocks, strength in starts:
                    now = exact(play(web_of(told), fracs(state), [fracs(row) for row in knocks]).now())
                    sums = [x + z * y * y / strength for x, y, z in zip(sums, now, sizes)]
                self.assertEqual(sums, [1] * told.cells)


if __name__ == "__main__":
    unittest.main()
