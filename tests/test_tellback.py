"""Points 92 and 93, with points 21, 22 and 23: inside_table, told_back, inside_product, determinant."""

import itertools
import unittest
from fractions import Fraction

from rodwebs.cores import Core
from rodwebs.errors import BadCount, BadSizes, BadStrength, Loud, Mismatch, TooFew
from rodwebs.fracs import Frac
from rodwebs.heardparts import heard_space, silent
from rodwebs.piles import Pile
from rodwebs.powers import Powers
from rodwebs.runs import echoes, play
from rodwebs.solving import below
from rodwebs.tables import Table
from rodwebs.tellback import determinant, inside_product, inside_table, told_back
from rodwebs.webs import Web
from tests.helpers import Looks, exact, frac, fracs, rank_of, source, value_of
from tests.players import TOLD, inner, some_players, units, web_of
from tests.told import some_state, some_strength, told_webs

WEB = web_of(TOLD)
HALF = Frac(1, 2)


def singles(numbers):
    """Echo tables of one ear."""
    return [Table([[number]]) for number in numbers]


def heard_of(tables, knocks):
    """What is heard from rest by point 16, in Fractions."""
    rows = [exact(list(table)) for table in tables]
    return [[sum((rows[k - j][a][b] * knocks[j][b] for j in range(k + 1) for b in range(len(knocks[0]))), Fraction(0))
             for a in range(len(knocks[0]))] for k in range(len(knocks))]


def told_product(strengths, tables, first, second):
    """The inside product as point 21 tells it."""
    out = Fraction(0)
    for u, v, g, h in zip(first, second, heard_of(tables, first), heard_of(tables, second)):
        out += sum((z * (a * b - c * d) for z, a, b, c, d in zip(strengths, u, v, g, h)), Fraction(0))
    return out


def single_knocks(ears, ticks):
    """For each place the list of knocks that it stands for."""
    return [[[Fraction(int((k, b) == (j, a))) for b in range(ears)] for k in range(ticks)]
            for j in range(ticks) for a in range(ears)]


def some_tables(draw, ears, count, most):
    return [[[Fraction(draw.randint(-most, most), draw.randint(1, 9)) for _ in range(ears)] for _ in range(ears)]
            for _ in range(count)]


class InsideTables(Looks, unittest.TestCase):
    def test_any_tables(self):
        draw = source(920)
        for ears, count in ((1, 1), (1, 4), (2, 3), (3, 2), (4, 1)):
            strengths = [some_strength(draw) for _ in range(ears)]
            rows = some_tables(draw, ears, count, 3)
            tables = [Table([fracs(row) for row in table]) for table in rows]
            given = inside_table(tuple(fracs(strengths)), tuple(tables))
            self.assertIs(type(given), Table)
            knocks = single_knocks(ears, count)
            wanted = [[told_product(strengths, tables, one, other) for other in knocks] for one in knocks]
            self.same(list(given), wanted)
            self.assertEqual((given.height, given.width), (ears * count,) * 2)

    def test_products_of_states(self):
        draw = source(921)
        for player in [WEB, *some_players(draw, 3)]:
            if player.cells <= 8:
                given = inside_table(player.strengths, echoes(player, 4))
                places = [play(player, player.rest(), fracs_of_lists(knocks)).now()
                          for knocks in single_knocks(player.ears, 4)]
                self.same(list(given), [[inner(player, x, y) for y in places] for x in places])
                self.assertIsNone(below(given))

    def test_strengths_may_be_integers(self):
        self.same(list(inside_table([2], singles([0, 1]))), [[0, 0], [0, 2]])
        self.same(list(inside_table([2], singles([HALF, 3]))),
                  [[2 - Fraction(1, 2) - 18, -3], [-3, Fraction(3, 2)]])

    def test_without_ears_or_tables(self):
        for count in (0, 1, 300):
            self.assertEqual(inside_table([], [Table([])] * count), Table([]))
        self.assertEqual(inside_table([1, 2], []), Table([]))

    def test_bounds(self):
        self.assertEqual(inside_table([1], singles([0] * 100)), Table.unit(100))
        self.assertEqual(inside_table([1, 2, 3, 4], [Table.zero(4, 4)] * 25).height, 100)
        self.assertEqual(inside_table([1, 2, 3], [Table.zero(3, 3)] * 33).height, 99)

    def test_refused(self):
        for call in (inside_table, told_back, lambda *told: inside_product(*told, [[]], [[]])):
            self.refused(BadCount, {"count": 5}, call, [0] * 5, [Table([[1]])])
            for strength in (0, -2, Frac(-1, 3)):
                error = self.refused(BadStrength, {"strength": strength}, call, [1, strength, 0], [Table([[1]])])
                self.assertIs(error.strength, strength)
            for table in (Table([[1]]), Table([]), Table.zero(2, 1), Table.zero(1, 2), Table.unit(3)):
                self.refused(Mismatch, {}, call, [1, 1], [Table.zero(2, 2), table] + [Table.zero(2, 2)] * 60)
            self.refused(Mismatch, {}, call, [], [Table.unit(1)])
            self.refused(BadCount, {"count": 101}, call, [1], singles([2] * 101))
            self.refused(BadCount, {"count": 104}, call, [1] * 4, [Table.zero(4, 4)] * 26)


def fracs_of_lists(lists):
    return [fracs(numbers) for numbers in lists]


class InsideProducts(Looks, unittest.TestCase):
    def test_products(self):
        draw = source(930)
        for ears, count in ((0, 3), (1, 0), (1, 5), (2, 3), (4, 2)):
            strengths = [some_strength(draw) for _ in range(ears)]
            tables = [Table([fracs(row) for row in table]) for table in some_tables(draw, ears, count, 2)]
            first, second = [[some_state(draw, ears) for _ in range(count)] for _ in range(2)]
            given = inside_product(fracs(strengths), tables, fracs_of_lists(first), tuple(fracs_of_lists(second)))
            self.one(given, told_product(strengths, tables, first, second) if count and ears else 0)

    def test_energy_inside(self):
        draw = source(931)
        for player in some_players(draw, 4):
            first, second = [[fracs(some_state(draw, player.ears)) for _ in range(5)] for _ in range(2)]
            one, other = [play(player, player.rest(), knocks) for knocks in (first, second)]
            tables = echoes(player, 5)
            self.assertEqual(inside_product(player.strengths, tables, first, second),
                             player.product(one.now(), other.now()))
            self.assertEqual(inside_product(player.strengths, tables, first, first), one.energy_in - one.energy_out)

    def test_refused(self):
        tables = [Table.zero(2, 2)] * 2
        good = [[1, 2], [3, 4]]
        self.refused(BadSizes, {"given": 1, "wanted": 2}, inside_product, [1, 1], tables, [[1]], [])
        self.refused(BadSizes, {"given": 3, "wanted": 2}, inside_product, [1, 1], tables, good + [[]], [])
        self.refused(BadSizes, {"given": 1, "wanted": 2}, inside_product, [1, 1], tables, [[1, 2], [1]], [])
        self.refused(BadSizes, {"given": 3, "wanted": 2}, inside_product, [1, 1], tables, [[1, 2, 3], [1]], [])
        self.refused(BadSizes, {"given": 0, "wanted": 2}, inside_product, [1, 1], tables, good, [])
        self.refused(BadSizes, {"given": 4, "wanted": 2}, inside_product, [1, 1], tables, good, [[]] * 4)
        self.refused(BadSizes, {"given": 3, "wanted": 2}, inside_product, [1, 1], tables, good, [[1, 2], [1, 2, 3]])
        self.refused(BadSizes, {"given": 1, "wanted": 0}, inside_product, [1], [], [[1]], [])


class ToldBack(Looks, unittest.TestCase):
    def told(self, strengths, tables):
        core = told_back(strengths, tables)
        self.assertIs(type(core), Core)
        self.assertEqual(list(core.strengths), list(strengths))
        self.assertEqual(core.ears, len(strengths))
        self.assertEqual(echoes(core, len(tables)), list(tables))
        self.assertEqual(core.cells, rank_of(exact(list(inside_table(strengths, tables)))))
        self.assertEqual(len(silent(core)), 0)
        return core

    def test_players(self):
        draw = source(922)
        for player in [WEB, *some_players(draw, 4)]:
            size = len(heard_space(player))
            for count in (size + 1, size + 2):
                if count * player.ears <= 100:
                    core = self.told(player.strengths, echoes(player, count))
                    self.assertEqual(core.cells, size)
                    self.assertEqual(echoes(core, 30), echoes(player, 30))

    def test_kinds_of_lists(self):
        core = told_back((1,), tuple(singles([0, 1, 0])))
        self.assertEqual(core.cells, 1)
        self.assertEqual([type(z) for z in core.strengths], [Frac])
        self.assertEqual(told_back([2], singles([1])).cells, 0)
        self.assertEqual(told_back([2], singles([-1, 0, 0])).cells, 0)

    def test_without_ears(self):
        for count in (1, 2, 300):
            core = told_back([], [Table([])] * count)
            self.assertEqual((core.cells, core.ears), (0, 0))

    def test_large(self):
        pile = Pile([Frac(1, 2), Frac(-1, 3)] * 12, end=-1, strength=Frac(2, 3))
        for count in (25, 26, 60, 100):
            core = told_back([Frac(2, 3)], singles(pile.echo(count)))
            self.assertEqual(core.cells, 24)
            self.assertEqual([table[0, 0] for table in echoes(core, 40)], pile.echo(40))
        self.refused(TooFew, {"count": 24}, told_back, [Frac(2, 3)], singles(pile.echo(24)))
        web = Web(["level"] * 8, [(k, 7 - k, 1, k + 1) for k in range(7)] + [(0, 0, 5, HALF)], [(k, 1) for k in range(4)])
        self.assertEqual(told_back(web.strengths, echoes(web, 25)).cells, len(heard_space(web)))

    def test_too_few(self):
        self.refused(TooFew, {"count": 0}, told_back, [], [])
        self.refused(TooFew, {"count": 0}, told_back, [1], [])
        self.refused(TooFew, {"count": 1}, told_back, [1], singles([HALF]))
        self.refused(TooFew, {"count": 3}, told_back, [1], singles([HALF, 0, 0]))
        for player in (WEB, Pile([HALF, Frac(1, 3), Frac(-1, 4)])):
            ranks = [0] + [rank_of(exact(list(inside_table(player.strengths, echoes(player, count)))))
                           for count in range(1, player.cells + 2)]
            for count in range(1, player.cells + 2):
                if ranks[count] == ranks[count - 1]:
                    self.told(player.strengths, echoes(player, count))
                else:
                    self.refused(TooFew, {"count": count}, told_back, player.strengths, echoes(player, count))

    def test_more_than_24_cells(self):
        for count in (25, 26, 27, 100):
            self.refused(TooFew, {"count": count}, told_back, [1], singles([0] * (count - 1) + [HALF]))
        # Both ears of these 13 pairs of ticks stand for more than 24 cells, though no table is new behind them.
        late = [Table.zero(2, 2)] * 13 + [Table.unit(2)]
        for more in (0, 1, 5):
            tables = late + [Table.zero(2, 2)] * more
            self.refused(TooFew, {"count": len(tables)}, told_back, [1, 1], tables)
            less = [Table.zero(2, 2)] * 12 + [Table.unit(2)] + [Table.zero(2, 2)] * more
            self.assertEqual(told_back([1, 1], less).cells, 24)

    def test_late_and_loud(self):
        """Tables are looked at to their end, also behind more than 24 cells."""
        late = [Table.zero(2, 2)] * 13 + [Table.unit(2)] + [Table.zero(2, 2)] * 3
        loud = late + [Table([[0, 0], [HALF, 0]])]
        self.refused(Loud, {"index": 17}, told_back, [1, 1], loud + [Table.zero(2, 2)])
        for at in (30, 99):
            numbers = [0] * 100
            numbers[at] = 2
            self.refused(Loud, {"index": at}, told_back, [1], singles(numbers))

    def loud_index(self, strengths, tables):
        for index in range(len(tables)):
            if below(inside_table(strengths, tables[:index + 1])) is not None:
                return index
        return None

    def test_loud(self):
        draw = source(923)
        seen = set()
        for ears in (1, 2, 3):
            for _ in range(15):
                strengths = fracs([some_strength(draw, 3) for _ in range(ears)])
                tables = [Table([[Frac(draw.randint(-2, 2), draw.randint(3, 6)) for _ in range(ears)]
                                 for _ in range(ears)]) for _ in range(5)]
                wanted = self.loud_index(strengths, tables)
                seen.add(wanted)
                if wanted is None:
                    self.refused(TooFew, {"count": 5}, told_back, strengths, tables)
                else:
                    self.refused(Loud, {"index": wanted}, told_back, strengths, tables)
                    self.refused(TooFew, {"count": wanted}, told_back, strengths, tables[:wanted])
        self.assertGreater(len(seen), 3)

    def test_players_spoiled(self):
        for player in (WEB, Pile([HALF, Frac(-1, 3)], strength=3)):
            tables = echoes(player, 10)
            for at, heard, knocked in itertools.product(range(10), range(player.ears), range(player.ears)):
                for change in (Frac(1, 7), -2):
                    rows = [list(row) for row in tables[at]]
                    rows[heard][knocked] = rows[heard][knocked] + change
                    spoiled = tables[:at] + [Table(rows)] + tables[at + 1:]
                    wanted = self.loud_index(player.strengths, spoiled)
                    self.assertIsNotNone(wanted)
                    self.refused(Loud, {"index": wanted}, told_back, player.strengths, spoiled)

    def test_loud_ahead_of_too_few(self):
        self.refused(Loud, {"index": 0}, told_back, [1], singles([2]))
        self.refused(Loud, {"index": 0}, told_back, [1], singles([Frac(-3, 2), 0, 0]))
        self.refused(Loud, {"index": 2}, told_back, [1], singles([1, 0, Frac(1, 100), 5]))
        self.refused(Loud, {"index": 1}, told_back, [1, 4], [Table([[0, 2], [HALF, 0]]), Table([[0, 0], [1, 0]])])
        self.assertEqual(told_back([1, 4], [Table([[0, 2], [HALF, 0]]), Table.zero(2, 2)]).cells, 0)
        self.refused(Loud, {"index": 0}, told_back, [1, 1], [Table([[0, 2], [HALF, 0]])])

    def test_loud_by_little(self):
        self.refused(Loud, {"index": 0}, told_back, [1, 1], [Table([[1, 0], [1, 0]])])
        self.refused(Loud, {"index": 0}, told_back, [1, 1], [Table([[0, 1], [0, 1]])])
        self.refused(Loud, {"index": 1}, told_back, [1], singles([HALF, Frac(3 * 10 ** 30 + 1, 4 * 10 ** 30)]))
        self.assertEqual(told_back([1], singles([HALF, Frac(3, 4), Frac(-3, 8)])).cells, 1)

    def test_nothing_changes(self):
        strengths, tables = [3], singles([0, 1])
        core = told_back(strengths, tables)
        inside_table(strengths, tables)
        strengths[0] = 7
        tables.clear()
        self.assertEqual((core.cells, list(core.strengths)), (1, [3]))


class Determinants(Looks, unittest.TestCase):
    def told(self, tables, count):
        """The coefficients of the determinant, by all orders of the columns."""
        rows = [exact(list(table)) for table in tables]
        size = len(rows[0])
        out = [Fraction(0)] * count
        for order in itertools.permutations(range(size)):
            odd = sum(1 for i in range(size) for j in range(i) if order[j] > order[i]) & 1
            part = [Fraction(1)] + [Fraction(0)] * (count - 1)
            for row, col in enumerate(order):
                factor = [table[row][col] for table in rows]
                part = [sum((part[j] * factor[k - j] for j in range(k + 1)), Fraction(0)) for k in range(count)]
            out = [x - y if odd else x + y for x, y in zip(out, part)]
        return out

    def test_any_tables(self):
        draw = source(932)
        for ears, count in ((1, 5), (2, 4), (3, 3), (4, 2), (0, 3)):
            tables = [Table([fracs(row) for row in table]) for table in some_tables(draw, ears, count, 4)]
            given = determinant(tuple(tables))
            self.assertIs(type(given), Powers)
            self.same(list(given), self.told(tables, count))

    def test_bounds(self):
        self.assertEqual(determinant([]), Powers([]))
        self.same(list(determinant([Table([])] * 3)), [1, 0, 0])
        self.same(list(determinant([Table([])])), [1])
        self.same(list(determinant(singles(range(100)))), list(range(100)))
        self.same(list(determinant([Table.unit(4) * 2])), [16])
        self.refused(Mismatch, {}, determinant, [Table([[1]])] * 101 + [Table.unit(2)])
        self.refused(Mismatch, {}, determinant, [Table([[1, 2]])])
        self.refused(Mismatch, {}, determinant, [Table.unit(5), Table([])])
        self.refused(BadCount, {"count": 101}, determinant, [Table.unit(5)] * 101)
        self.refused(BadCount, {"count": 5}, determinant, [Table.unit(5)] * 100)

    def test_echoes_of_one_pile(self):
        draw = source(933)
        for player in [WEB, *some_players(draw, 5)]:
            size = len(heard_space(player))
            if size <= 12:
                given = determinant(echoes(player, size + 4))
                self.assertEqual(told_back([1], singles(given)).cells, size)


if __name__ == "__main__":
    unittest.main()
