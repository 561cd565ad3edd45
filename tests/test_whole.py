"""The general rules (points 2 to 6) over all modules, and what points 12 to 19 say of all players together."""

import copy
import unittest
from fractions import Fraction

from rodwebs import errors
from rodwebs.alike import alike, compare, first_difference, lead_between
from rodwebs.checker import accepts
from rodwebs.cores import Core
from rodwebs.desk import Desk
from rodwebs.discount import discounted, discounted_at_rest, discounted_start
from rodwebs.doubles import doubled, parted_at
from rodwebs.explaining import explanation
from rodwebs.firsts import earliest, first_change
from rodwebs.folds import classes, fold
from rodwebs.fracs import Frac
from rodwebs.heardparts import heard_part, heard_space, parted, silent
from rodwebs.joins import behind, closed, cut, linked_web
from rodwebs.linked import Linked
from rodwebs.moves import merge, renumber, split, turn, twin
from rodwebs.piles import Pile
from rodwebs.rounds import come_round, period
from rodwebs.runs import echoes, play
from rodwebs.scripts import perform
from rodwebs.sheets import sheets
from rodwebs.slides import slide, unslide
from rodwebs.webs import Web
from tests.helpers import Looks, exact, fracs, source
from tests.players import TOLD, loudness, some_knocks, some_players, web_of
from tests.told import some_state

WEB = web_of(TOLD)
HALF = Frac(1, 2)
LINE = Web(["level"] * 3, [(0, 1, 1, 2), (1, 2, 2, 2)], [(0, 1), (2, 2)])
STUB = Web(["level"] * 3, [(0, 2, 1, 2), (0, 1, 1, 3)], [(1, 1)])
SMALL = Web(["level", "level"], [(0, 1, 1, 1)], [(0, 1)])
SLID = slide(STUB, 0, 1).second
TWIN = Web(["level"] * 2, [(0, 1, 1, 1), (1, 0, 1, 1)], [(0, 1)])
LEVEL = Web(["level"] * 3, [(0, 1, 1, 1), (0, 2, 1, 1)], [(0, 1)])


def calls():
    """Calls of all functions of the last stages, each with arguments in which every list is new and can be changed."""
    yield explanation, [WEB, [[1, 2], [3, HALF]]], {"knocks": [[0, 0], [5, 6]]}
    yield explanation, [SMALL, [[1], [2]]], {}
    yield period, [LEVEL, [1, 0, -1, 0]], {}
    yield come_round, [WEB, [[1, 2], [HALF, 4]]], {}
    yield first_difference, [LEVEL, SMALL], {}
    yield alike, [LEVEL, SMALL], {}
    yield compare, [LEVEL, SMALL], {}
    yield compare, [LEVEL, LEVEL], {}
    yield lead_between, [LEVEL, LEVEL], {}
    yield classes, [LEVEL], {}
    yield fold, [LEVEL], {}
    yield sheets, [SMALL, 2, [[1, 0]]], {}
    yield parted_at, [WEB, [0]], {}
    yield doubled, [SMALL, [1]], {}
    yield discounted, [WEB, HALF], {}
    yield discounted_at_rest, [WEB, HALF], {}
    yield discounted_start, [WEB, [1, 2, 3, 4, 5, 6, 7, HALF], HALF], {}
    yield turn, [WEB, 0], {}
    yield renumber, [WEB, [2, 0, 1]], {}
    yield split, [LINE, 1, 1], {}
    yield merge, [LINE, 1], {}
    yield twin, [TWIN, 0, 1], {}
    yield slide, [STUB, 0, 1], {}
    yield unslide, [SLID, 0, 1], {}
    yield linked_web, [[SMALL, SMALL], [[0, 1, 2]]], {}
    yield cut, [SMALL, 0], {}
    yield closed, [SMALL, 0, "stream"], {"length": 2}
    yield behind, [SMALL, 2, 3], {}
    yield Linked, [[SMALL, SMALL], [[0, 1, 2, -1]]], {}
    yield Linked([SMALL, LINE], [(0, 1, 1)]).parts, [[1, 2, 3, 4, 5, 6, 7, 8, 9, HALF]], {}
    yield Linked([SMALL, LINE], [(0, 1, 1)]).tick, [[1, 2, 3, 4, 5, 6, 7, 8, 9, HALF], [3]], {}
    yield Linked([SMALL, LINE], [(0, 1, 1)]).back, [[1, 2, 3, 4, 5, 6, 7, 8, 9, HALF], [3]], {}
    yield Linked([SMALL, LINE], [(0, 1, 1)]).product, [[1, 2, 3, 4, 5, 6, 7, 8, 9, HALF], [1] * 10], {}
    yield Linked([SMALL, LINE], [(0, 1, 1)]).exchanged, [0, turn(SMALL, 0)], {}
    yield Desk, [SMALL], {"state": [1, 2]}
    yield earliest, [LINE, [1, 2], 0, 1], {}
    yield first_change, [LEVEL, SMALL, 0, 0, 20], {}
    yield perform, [Desk(LINE), [["knock", 1, 2], ["move", "renumber", [2, 1, 0]], ["wait", 2]]], {}


def plain(value):
    """A value as something that can be compared: all its lists, tuples and numbers, and what objects hold."""
    if isinstance(value, (list, tuple)):
        return [type(value).__name__, *map(plain, value)]
    if isinstance(value, dict):
        return {key: plain(part) for key, part in value.items()}
    if type(value).__module__.startswith("rodwebs"):
        return [type(value).__name__, {name: plain(part) for name, part in vars(value).items()}]
    return value


def as_tuples(value):
    return tuple(map(as_tuples, value)) if isinstance(value, (list, tuple)) else value


class Rules(Looks, unittest.TestCase):
    def spoil(self, value):
        """Changes all lists in a value that was returned."""
        if isinstance(value, tuple):
            for part in value:
                self.spoil(part)
        if isinstance(value, list):
            for part in value:
                self.spoil(part)
            value.clear()
            value.append("spoiled")

    def test_arguments_and_returned_lists(self):
        """Point 4: no argument is changed, and lists that are returned are new."""
        for (call, arguments, named), (again, same, _) in zip(calls(), calls()):
            kept = copy.deepcopy(plain(arguments)), copy.deepcopy(plain(named))
            given = call(*arguments, **named)
            if call is perform:
                kept[0][1] = plain(arguments[0])
            self.assertEqual((plain(arguments), plain(named)), kept, call)
            told = copy.deepcopy(plain(given))
            self.spoil(given)
            self.assertEqual((plain(arguments), plain(named)), kept, call)
            self.assertEqual(plain(again(*same, **named)), told, call)

    def test_objects_copy_what_they_are_passed(self):
        for (call, arguments, named) in calls():
            given = call(*arguments, **named)
            told = copy.deepcopy(plain(given))
            for argument in [*arguments, *named.values()]:
                if isinstance(argument, list):
                    self.spoil(argument)
            self.assertEqual(plain(given), told, call)

    def test_tuples_are_lists(self):
        """Point 2: a list, as an argument or inside one, is a list or a tuple."""
        for (call, arguments, named), (again, same, _) in zip(calls(), calls()):
            told = plain(again(*same, **named))
            given = call(*map(as_tuples, arguments), **{name: as_tuples(value) for name, value in named.items()})
            self.assertEqual(plain(given), told, call)

    def test_numbers_are_fracs(self):
        """Point 2: each number that is returned is a Frac, but for integers that the document names."""
        whole = {period, earliest, first_change, first_difference, classes, alike}
        for call, arguments, named in calls():
            given = call(*arguments, **named)
            if isinstance(given, (list, tuple)) and call not in whole and call is not perform:
                self.all_fracs(given)
            if call in whole and call is not alike:
                self.assertTrue(all(type(part) in (int, list, tuple) for part in (
                    given if isinstance(given, tuple) else [given])))

    def test_all_errors_are_listed(self):
        """Point 5: all error classes derive directly from WebError."""
        for name, value in vars(errors).items():
            if isinstance(value, type) and value is not errors.WebError:
                self.assertEqual(value.__bases__, (errors.WebError,), name)

    def test_large_numbers(self):
        """Point 3: numbers of 60 digits."""
        large = Frac(10 ** 60 - 1, 10 ** 60 - 3)
        web = Web(["level", "stream"], [(0, 1, 1, large, -1), (1, 1, 1, 3)], [(0, HALF), (1, large)])
        self.assertTrue(alike(web, Core.of(web)))
        self.assertIsNone(first_difference(web, turn(web, 0).second))
        near = Web(["level", "stream"], [(0, 1, 1, large, -1), (1, 1, 1, 3 + Frac(1, 10 ** 59))], web.ear_list)
        self.assertEqual(first_difference(web, near), (0, 1, 1))
        self.assertIs(accepts(compare(web, near)), True)
        desk = Desk(web, [large] * 4)
        desk.knock(large, -large)
        desk.wait(2)
        knocked, change, gone, inside = desk.book()
        self.assertEqual(4 * large * large * (large + 3).over(2) + knocked + change, gone + inside)


class AllPlayers(Looks, unittest.TestCase):
    def players(self, draw):
        return [WEB, LEVEL, *some_players(draw, 8)]

    def test_energy(self):
        """Points 12 and 15: nothing is lost, and each tick can be taken back."""
        draw = source(1290)
        for player in self.players(draw):
            self.assertTrue(0 <= player.cells <= 24 and 0 <= player.ears <= 4)
            start, knocks = fracs(some_state(draw, player.cells)), some_knocks(draw, player, 5)
            record = play(player, start, knocks)
            left = exact(player.energy(record.now())) + loudness(player.strengths, record.heard_lists())
            self.assertEqual(left, exact(player.energy(start)) + loudness(player.strengths, knocks))
            state = record.now()
            for numbers, heard in zip(knocks[::-1], record.heard_lists()[::-1]):
                state, given = player.back(state, heard)
                self.assertEqual(given, numbers)
            self.assertEqual(state, start)

    def test_linear(self):
        draw = source(1291)
        for player in self.players(draw):
            one, other = [fracs(some_state(draw, player.cells)) for _ in range(2)]
            knocks, more = some_knocks(draw, player, 2)
            both = player.tick([x + 3 * y for x, y in zip(one, other)], [x + 3 * y for x, y in zip(knocks, more)])
            first, second = player.tick(one, knocks), player.tick(other, more)
            for given, x, y in zip(both, first, second):
                self.assertEqual(given, [a + 3 * b for a, b in zip(x, y)])

    def test_echoes_tell_all(self):
        """Point 16: what is heard from rest is the sum of the echo tables applied to the knocks."""
        draw = source(1292)
        for player in self.players(draw):
            knocks = some_knocks(draw, player, 5)
            heard = play(player, player.rest(), knocks).heard_lists()
            tables = [exact(list(table)) for table in echoes(player, 5)]
            for k, numbers in enumerate(heard):
                wanted = [sum((entry * number for j in range(k + 1) for entry, number in zip(
                    tables[k - j][ear], exact(knocks[j]))), Fraction(0)) for ear in range(player.ears)]
                self.same(numbers, wanted)

    def test_silent_and_heard(self):
        """Point 18."""
        draw = source(1293)
        for player in self.players(draw):
            state = fracs(some_state(draw, player.cells))
            quiet, loud = parted(player, state)
            self.assertEqual(player.energy(quiet) + player.energy(loud), player.energy(state))
            self.assertIn(loud, heard_space(player))
            record = play(player, quiet, [[0] * player.ears] * 5)
            self.assertFalse(any(x for numbers in record.heard_lists() for x in numbers))
            for now in record.states():
                self.assertIn(now, silent(player))
                self.assertEqual(player.energy(now), player.energy(quiet))
            self.assertIn(play(player, loud, [[0] * player.ears] * 3).now(), heard_space(player))

    def test_alike(self):
        """Points 17, 19 and 43: a lead exactly between alike players; an exchanged player is not heard."""
        draw = source(1294)
        for player in self.players(draw):
            core = heard_part(player).second
            self.assertEqual(len(heard_space(player)), core.cells)
            lead = lead_between(player, core)
            linked = Linked([player], [])
            self.assertEqual(linked.exchanged(0, lead).table, lead.table)
            self.assertTrue(alike(linked, core))


if __name__ == "__main__":
    unittest.main()
