"""Points 82 and 83, with points 4 and 12: Record."""

import inspect
import unittest
from fractions import Fraction

from rodwebs.cores import Core
from rodwebs.errors import BadPlace, BadSizes, Full, NothingToUndo
from rodwebs.fracs import Frac
from rodwebs.piles import Pile
from rodwebs.records import Record
from rodwebs.webs import Web
from tests.helpers import Looks, exact, fracs, source
from tests.players import TOLD, loudness, some_players, web_of
from tests.told import some_state, told_webs

WEB = Web(["level", "stream"], [(0, 1, 1, 2)], [(0, 1)])


def whole(record):
    """All that a record holds."""
    return (list(record), list(record.states()), record.begin(), record.now(), len(record), record.energy_in,
            record.energy_out, record.energy_left)


class Making(Looks, unittest.TestCase):
    def test_without_ticks(self):
        record = Record(WEB, (1, Frac(1, 2)))
        self.assertIs(record.player, WEB)
        self.assertEqual(len(record), 0)
        self.assertEqual((list(record), record.knock_lists(), record.heard_lists()), ([], [], []))
        self.same(record.begin(), [1, Fraction(1, 2)])
        self.same(record.now(), [1, Fraction(1, 2)])
        self.same(list(record.states()), [[1, Fraction(1, 2)]])
        self.one(record.energy_in, 0)
        self.one(record.energy_out, 0)
        self.one(record.energy_left, Fraction(5, 2))
        self.assertEqual([type(record.begin()), type(record.now())], [list, list])

    def test_class_value(self):
        self.assertEqual(Record.MOST_TICKS, 200)

    def test_players_without_cells_or_ears(self):
        record = Record(Web(), [])
        self.assertEqual(record.step([]), [])
        self.assertEqual((record.now(), list(record)), ([], [((), ())]))
        self.one(record.energy_left, 0)
        silent = Record(Web(["level", "level"], [(0, 1, 1, 3)]), [1, 2])
        self.assertEqual(silent.step(()), [])
        self.same(silent.now(), [2, 1])
        self.one(silent.energy_left, 15)
        bare = Record(Web(["level"], [], [(0, 5)]), [])
        self.same(bare.step([2]), [2])
        self.one(bare.energy_in, 20)

    def test_refused(self):
        for given in (0, 1, 3):
            self.refused(BadSizes, {"given": given, "wanted": 2}, Record, WEB, [0] * given)
        self.refused(BadSizes, {"given": 1, "wanted": 0}, Record, Web(), [0])


class Ticks(Looks, unittest.TestCase):
    def test_steps(self):
        draw = source(820)
        for told in told_webs(draw, 12):
            record = Record(web_of(told), fracs(start := some_state(draw, told.cells)))
            states, knocks_given, heard_wanted = [start], [], []
            for tick in range(5):
                knocks = some_state(draw, len(told.ears))
                state, heard = told.tick(states[-1], knocks)
                given = record.step(fracs(knocks))
                self.assertIs(type(given), list)
                self.same(given, heard)
                states.append(state)
                knocks_given.append(knocks)
                heard_wanted.append(heard)
                self.assertEqual(len(record), tick + 1)
            self.same(record.begin(), start)
            self.same(record.now(), states[-1])
            self.same(list(record.states()), states)
            self.same(record.knock_lists(), knocks_given)
            self.same(record.heard_lists(), heard_wanted)
            self.same(list(record), [[u, h] for u, h in zip(knocks_given, heard_wanted)])

    def test_item(self):
        record = Record(WEB, [0, 3])
        record.step([1])
        record.step((Frac(1, 2),))
        self.assertEqual([type(record[0]), type(record[0][0]), type(record[0][1])], [tuple] * 3)
        self.same(record[0], [[1], [Fraction(11, 3)]])
        self.assertEqual(record[1], list(record)[1])
        self.assertEqual([type(part) for entry in record for part in (entry, *entry)], [tuple] * 6)
        for place in (2, -1, -2, 10 ** 30, -10 ** 30):
            self.refused(BadPlace, {"place": place}, lambda: record[place])
        self.refused(BadPlace, {"place": 0}, lambda: Record(WEB, [0, 0])[0])

    def test_kinds_of_lists(self):
        record = Record(WEB, [0, 3])
        record += [[1], (2,)]
        self.assertEqual([type(part) for part in record.knock_lists()], [list, list])
        self.assertEqual([type(part) for part in record.heard_lists()], [list, list])
        self.assertTrue(inspect.isgenerator(record.states()))
        self.assertEqual([type(state) for state in record.states()], [list] * 3)
        self.all_fracs(record.knock_lists())
        self.assertIsInstance(vars(Record)["energy_in"], property)

    def test_energies(self):
        draw = source(821)
        for told in told_webs(draw, 15):
            start = some_state(draw, told.cells)
            record = Record(web_of(told), fracs(start))
            record += [fracs(some_state(draw, len(told.ears))) for _ in range(6)]
            ears = [strength for _, strength in told.ears]
            self.one(record.energy_in, loudness(ears, record.knock_lists()))
            self.one(record.energy_out, loudness(ears, record.heard_lists()))
            now = exact(record.now())
            self.one(record.energy_left, told.product(now, now))
            self.one(record.energy_left + record.energy_out - record.energy_in, told.product(start, start))

    def test_energy_of_all_kinds_of_players(self):
        draw = source(822)
        for player in some_players(draw):
            start = fracs(some_state(draw, player.cells))
            record = Record(player, start)
            record += [fracs(some_state(draw, player.ears)) for _ in range(4)]
            self.assertEqual(record.energy_left + record.energy_out, player.energy(start) + record.energy_in)


class Sums(Looks, unittest.TestCase):
    def test_in_place(self):
        record = other = Record(WEB, [0, 3])
        record += ([1], (Frac(1, 2),), [0])
        self.assertIs(record, other)
        self.assertEqual(len(other), 3)
        steps = Record(WEB, [0, 3])
        for knocks in ([1], [Frac(1, 2)], [0]):
            steps.step(knocks)
        self.assertEqual(whole(record), whole(steps))
        record += []
        self.assertEqual(whole(record), whole(steps))
        record += [[5]]
        steps.step([5])
        self.assertEqual(whole(record), whole(steps))

    def test_own_lists(self):
        record = Record(WEB, [0, 3])
        record += [[1], [2]]
        record += record.knock_lists()
        self.same(record.knock_lists(), [[1], [2], [1], [2]])

    def test_all_or_none(self):
        record = Record(WEB, [0, 3])
        record += [[1], [2]]
        before = whole(record)
        for lists, given in (([[1], [2], []], 0), ([[1, 2], []], 2), ([[1], [2, 3, 4], [5, 6]], 3)):
            with self.assertRaises(BadSizes) as caught:
                record += lists
            self.assertEqual((caught.exception.given, caught.exception.wanted), (given, 1))
            self.assertEqual(whole(record), before)

    def test_full(self):
        record = Record(WEB, [1, 0])
        record += [[0]] * 199
        before = whole(record)
        for lists in ([[0], [0]], [[0, 0], [0]], [[]] * 300):
            with self.assertRaises(Full):
                record += lists
            self.assertEqual(whole(record), before)
        with self.assertRaises(BadSizes):
            record += [[]]
        record += [[0]]
        self.assertEqual(len(record), 200)
        before = whole(record)
        self.refused(Full, {}, record.step, [0])
        self.refused(Full, {}, record.step, [0, 0])
        with self.assertRaises(Full):
            record += [[0]]
        with self.assertRaises(Full):
            record += [[]]
        record += ()
        self.assertEqual(whole(record), before)
        record.undo()
        record.step([1])
        self.assertEqual(len(record), 200)
        at_once = Record(WEB, [1, 0])
        at_once += [[1]] * 200
        self.assertEqual(len(at_once), 200)
        with self.assertRaises(Full):
            too_many = Record(WEB, [1, 0])
            too_many += [[1]] * 201

    def test_step_refused(self):
        record = Record(WEB, [0, 3])
        record.step([1])
        before = whole(record)
        for given in (0, 2, 3):
            self.refused(BadSizes, {"given": given, "wanted": 1}, record.step, [0] * given)
        self.assertEqual(whole(record), before)


class Undoing(Looks, unittest.TestCase):
    def test_undo(self):
        record = Record(WEB, [0, 3])
        past = [whole(record)]
        for number in (1, Frac(-2, 3), 4):
            record.step([number])
            past.append(whole(record))
        for number in (4, Fraction(-2, 3), 1):
            last = record[len(record) - 1]
            self.assertEqual(whole(record), past.pop())
            taken = record.undo()
            self.assertIs(type(taken), tuple)
            self.assertEqual(taken, last)
            self.same(taken[0], [number])
        self.assertEqual(whole(record), past[0])
        self.refused(NothingToUndo, {}, record.undo)
        self.assertEqual(whole(record), past[0])
        self.refused(NothingToUndo, {}, Record(WEB, [0, 0]).undo)

    def test_other_ticks_behind(self):
        record = Record(WEB, [0, 3])
        record += [[1], [7]]
        record.undo()
        record.step([2])
        straight = Record(WEB, [0, 3])
        straight += [[1], [2]]
        self.assertEqual(whole(record), whole(straight))


class Changes(Looks, unittest.TestCase):
    def test_what_is_handed_in(self):
        start, knocks, lists = [0, 3], [1], [[2], [3]]
        record = Record(WEB, start)
        record.step(knocks)
        record += lists
        before = whole(record)
        self.assertEqual((start, knocks, lists), ([0, 3], [1], [[2], [3]]))
        start[0] = 9
        knocks[0] = 9
        lists[0][0] = 9
        lists.clear()
        self.assertEqual(whole(record), before)

    def test_what_is_returned(self):
        record = Record(WEB, [0, 3])
        heard = record.step([1])
        before = whole(record)
        heard[0] = 9
        record.begin()[0] = 9
        record.now()[0] = 9
        record.knock_lists()[0][0] = 9
        record.knock_lists().clear()
        record.heard_lists()[0][0] = 9
        record.heard_lists().clear()
        for state in record.states():
            state[0] = 9
        self.assertEqual(whole(record), before)

    def test_players_stay(self):
        for player in (web_of(TOLD), Core.of(web_of(TOLD)), Pile([Frac(1, 2)], end=-1)):
            again = Record(player, player.rest())
            again += [[1] * player.ears] * 3
            record = Record(player, player.rest())
            record += [[1] * player.ears] * 3
            record.undo()
            record.step([1] * player.ears)
            self.assertEqual(whole(record), whole(again))


if __name__ == "__main__":
    unittest.main()
