"""Points 87 and 88, with points 12, 15, 20 and 24: Core."""

import unittest
from fractions import Fraction

from rodwebs.cores import Core
from rodwebs.errors import (
    BadCount, BadForm, BadOrder, BadSizes, BadStrength, Mismatch, TooLarge, Unkept,
)
from rodwebs.fracs import Frac
from rodwebs.leads import Lead
from rodwebs.piles import Pile
from rodwebs.players import Player
from rodwebs.runs import echoes, play
from rodwebs.tables import Table
from rodwebs.webs import Web
from tests.helpers import Looks, applied, exact, fracs, source, value_of
from tests.players import TOLD, inner, loudness, some_players, units, web_of
from tests.told import some_state, told_webs

WEB = web_of(TOLD)
HALF = Frac(1, 2)
# One cell and one ear: the knock enters, and what was inside is heard.
A, B, C, D = Table([[0]]), Table([[1]]), Table([[1]]), Table([[0]])
ONE = Table([[1]])


def swap(cells, strengths):
    """As many ears as cells that exchange their numbers with them."""
    unit = Table.unit(cells)
    return Core(Table.zero(cells, cells), unit, unit, Table.zero(cells, cells), form=Table.diagonal(strengths),
                strengths=strengths)


def dense_core():
    """A core with a form that is not diagonal: a web seen in other cells."""
    web = Web(["level", "stream"], [(0, 1, 1, 2), (1, 1, 1, HALF, -1)], [(0, 1), (1, 3)])
    core = Core.of(web)
    change = Table([[1, 1, 0, 0], [0, 1, 2, 0], [0, 0, 1, HALF], [0, 0, 0, 1]])
    back = change.inverse()
    return Core(change * core.a * back, change * core.b, core.c * back, core.d,
                form=back.transposed() * core.energy_form * back, strengths=core.strengths)


class Making(Looks, unittest.TestCase):
    def test_attributes(self):
        core = Core(A, B, C, D, form=Table([[2]]), strengths=(2,))
        self.assertIsInstance(core, Player)
        self.assertEqual(Core.__bases__, (Player,))
        self.assertEqual((core.a, core.b, core.c, core.d, core.energy_form), (A, B, C, D, Table([[2]])))
        self.assertEqual((core.cells, core.ears), (1, 1))
        self.assertIs(type(core.strengths), tuple)
        self.same(core.strengths, [2])
        self.assertEqual([type(table) for table in (core.a, core.b, core.c, core.d, core.energy_form)], [Table] * 5)

    def test_without_cells_or_ears(self):
        empty = Core(Table([]), Table([]), Table([]), Table([]), form=Table([]), strengths=[])
        self.assertEqual((empty.cells, empty.ears, empty.strengths), (0, 0, ()))
        self.assertEqual(empty.tick([], []), ([], []))
        self.assertEqual(empty.back([], []), ([], []))
        turn = Core(Table([[0, 1], [1, 0]]), Table([[], []]), Table([], width=2), Table([]), form=Table.unit(2),
                    strengths=())
        self.same(turn.tick([1, 2], [])[0], [2, 1])
        self.assertEqual(turn.tick([1, 2], [])[1], [])
        bare = Core(Table([]), Table([], width=2), Table([[], []]), Table([[0, 1], [1, 0]]), form=Table([]),
                    strengths=[3, 3])
        self.assertEqual(bare.tick([], [1, 2])[0], [])
        self.same(bare.tick([], [1, 2])[1], [2, 1])
        self.same(bare.back([], [1, 2])[1], [2, 1])

    def test_bounds(self):
        cells = Table.unit(24)
        core = Core(cells, Table([[]] * 24), Table([], width=24), Table([]), form=cells, strengths=[])
        self.assertEqual((core.cells, core.ears), (24, 0))
        self.assertEqual(swap(4, [1, 2, 3, 4]).ears, 4)
        large = Table.unit(25)
        self.refused(TooLarge, {"size": 25}, Core, large, Table([]), Table([]), Table([]), form=Table([]),
                     strengths=[0])
        self.refused(BadCount, {"count": 5}, swap, 5, [1] * 5)

    def test_shapes_refused(self):
        wide, flat = Table([[1, 0]]), Table([], width=1)
        self.refused(Mismatch, {}, Core, wide, B, C, D, form=ONE, strengths=[1])
        self.refused(Mismatch, {}, Core, Table.zero(30, 29), B, C, D, form=ONE, strengths=[1])
        self.refused(Mismatch, {}, Core, A, Table([[1], [1]]), C, D, form=ONE, strengths=[1])
        self.refused(Mismatch, {}, Core, A, Table.zero(2, 5), C, D, form=ONE, strengths=[1])
        self.refused(BadCount, {"count": 5}, Core, A, Table.zero(1, 5), C, D, form=ONE, strengths=[1])
        for table in (wide, flat, Table([[1], [1]]), Table([])):
            self.refused(Mismatch, {}, Core, A, B, table, D, form=ONE, strengths=[1])
            self.refused(Mismatch, {}, Core, A, B, C, table, form=ONE, strengths=[1])
            self.refused(Mismatch, {}, Core, A, B, C, D, form=table, strengths=[1])
        for form in (wide, wide.transposed(), ONE, Table.unit(3), Table([])):
            self.refused(Mismatch, {}, Core, Table.unit(2), Table([[], []]), Table([], width=2), Table([]), form=form,
                         strengths=[0])

    def test_order_of_parameters(self):
        bad = Table([[1, 2]])
        self.refused(TooLarge, {"size": 25}, Core, Table.unit(25), bad, bad, bad, form=bad, strengths=[0])
        self.refused(BadCount, {"count": 5}, Core, A, Table.zero(1, 5), bad, bad, form=bad, strengths=[0])
        self.refused(BadForm, {}, Core, A, B, C, D, form=Table([[0]]), strengths=[0, 0])
        self.refused(BadSizes, {"given": 2, "wanted": 1}, Core, ONE, B, C, ONE, form=ONE, strengths=[0, 0])
        self.refused(BadStrength, {"strength": 0}, Core, ONE, B, C, ONE, form=ONE, strengths=[0])
        self.refused(Unkept, {}, Core, ONE, B, C, ONE, form=ONE, strengths=[1])

    def test_form_refused(self):
        cells, none, out = Table.unit(3), Table([[]] * 3), Table([], width=3)
        self.refused(Mismatch, {}, Core, cells, none, out, Table([]), form=Table([[1, 2, 0], [0, 1, 0], [0, 0, 1]]),
                     strengths=[])
        forms = ([[1, 2, 0], [2, 1, 0], [0, 0, 1]], [[1, 0, 0], [0, 0, 0], [0, 0, 1]], [[0, 1, 0], [1, 0, 0], [0, 0, 1]],
                 [[1, 1, 1], [1, 1, 1], [1, 1, 1]], [[1, 0, 0], [0, 1, 0], [0, 0, -1]], [[0] * 3] * 3)
        for rows in forms:
            error = self.refused(BadForm, {}, Core, cells, none, out, Table([]), form=Table(rows), strengths=[0])
            self.assertIs(type(error.numbers), tuple)
            self.all_fracs(error.numbers)
            self.assertEqual(len(error.numbers), 3)
            self.assertTrue(any(error.numbers))
            self.assertLessEqual(value_of(exact(rows), exact(error.numbers)), 0)

    def test_strengths_refused(self):
        for strengths in ([], [1, 1]):
            self.refused(BadSizes, {"given": len(strengths), "wanted": 1}, Core, A, B, C, D, form=ONE,
                         strengths=strengths)
        self.refused(BadSizes, {"given": 2, "wanted": 1}, Core, A, B, C, D, form=ONE, strengths=[0, 0])
        for strength in (0, -1, Frac(-1, 2), Frac(0)):
            error = self.refused(BadStrength, {"strength": strength}, Core, A, B, C, D, form=ONE, strengths=[strength])
            self.assertIs(error.strength, strength)
        self.refused(BadStrength, {"strength": -7}, Core, Table([]), Table([], width=3), Table([[]] * 3),
                     Table.zero(3, 3), form=Table([]), strengths=[1, -7, 0])

    def unkept(self, a, b, c, d, form, strengths):
        error = self.refused(Unkept, {}, Core, a, b, c, d, form=form, strengths=strengths)
        self.assertEqual([type(error.state), type(error.knocks)], [tuple, tuple])
        self.all_fracs([error.state, error.knocks])
        self.assertEqual((len(error.state), len(error.knocks)), (a.height, b.width))
        state, knocks = exact(error.state), exact(error.knocks)
        new = [x + y for x, y in zip(applied(exact(list(a)), state), applied(exact(list(b)), knocks))]
        heard = [x + y for x, y in zip(applied(exact(list(c)), state), applied(exact(list(d)), knocks))]
        rows = exact(list(form))
        self.assertNotEqual(value_of(rows, new) + loudness(strengths, [heard]),
                            value_of(rows, state) + loudness(strengths, [knocks]))

    def test_unkept(self):
        self.unkept(A, B, C, D, ONE, [2])
        self.unkept(A, B, C, D, Table([[2]]), [1])
        self.unkept(ONE, B, C, D, ONE, [1])
        self.unkept(A, B, C, ONE, ONE, [1])
        self.unkept(A, Table([[0]]), C, D, ONE, [1])
        self.unkept(A, B, Table([[0]]), D, ONE, [1])
        none, out = Table([[], []]), Table([], width=2)
        # Each single cell keeps its energy here, but not two cells at once.
        self.unkept(Table([[1, 1], [0, 0]]), none, out, Table([]), Table.unit(2), [])
        self.unkept(Table([[0, 0], [1, 1]]), none, out, Table([]), Table.unit(2), [])
        # So do a cell and an ear.
        self.unkept(ONE, B, Table([[0]]), D, ONE, [1])
        # What two cells change together may hide what one of them changes.
        self.unkept(Table([[1, -1], [0, 1]]), Table([[0], [0]]), Table([[0, 1]]), D, Table.unit(2), [1])
        for change in units(4):
            core = dense_core()
            row = [list(x) for x in core.a]
            row[1] = [x + y for x, y in zip(row[1], change)]
            self.unkept(Table(row), core.b, core.c, core.d, core.energy_form, core.strengths)

    def test_equal(self):
        core = dense_core()
        self.truth(core == dense_core(), True)
        self.truth(core != dense_core(), False)
        for other in (core.negated(), core.backward(), core.dual(), core.reordered([1, 0]), Core.of(WEB), WEB, None, 1):
            self.truth(core == other, False)
            self.truth(core != other, True)
        one = swap(1, [2])
        self.truth(one == swap(1, [2]), True)
        self.truth(one == swap(1, [3]), False)
        plus = Core(A, B, C, D, form=ONE, strengths=[1])
        minus = Core(A, -B, C, D, form=ONE, strengths=[1])
        self.truth(plus == minus, False)
        self.truth(plus == Core(A, B, -C, D, form=ONE, strengths=[1]), False)
        up = Core(ONE, Table([[0]]), Table([[0]]), ONE, form=ONE, strengths=[1])
        for a, d, form in ((-ONE, ONE, ONE), (ONE, -ONE, ONE), (ONE, ONE, Table([[2]]))):
            self.truth(up == Core(a, Table([[0]]), Table([[0]]), d, form=form, strengths=[1]), False)
        self.truth(up == Core(ONE, Table([[0]]), Table([[0]]), ONE, form=ONE, strengths=[2]), False)
        self.truth(up == Core(ONE, Table([[0]]), Table([[0]]), ONE, form=ONE, strengths=[1]), True)


class PlayingCores(Looks, unittest.TestCase):
    def test_tick(self):
        draw = source(870)
        for core in (dense_core(), Core.of(WEB), Core.of(Pile([HALF, Frac(-1, 3)], strength=3))):
            for _ in range(3):
                state, knocks = some_state(draw, core.cells), some_state(draw, core.ears)
                given = core.tick(tuple(fracs(state)), fracs(knocks))
                self.assertEqual([type(given), type(given[0]), type(given[1])], [tuple, list, list])
                a, b, c, d = [exact(list(table)) for table in (core.a, core.b, core.c, core.d)]
                self.same(given[0], [x + y for x, y in zip(applied(a, state), applied(b, knocks))])
                self.same(given[1], [x + y for x, y in zip(applied(c, state), applied(d, knocks))])
                old = core.back(given[0], tuple(given[1]))
                self.assertEqual([type(old), type(old[0]), type(old[1])], [tuple, list, list])
                self.same(old[0], state)
                self.same(old[1], knocks)

    def test_back_of_anything(self):
        draw = source(871)
        core = dense_core()
        state, heard = fracs(some_state(draw, 4)), fracs(some_state(draw, 2))
        self.assertEqual(core.tick(*core.back(state, heard)), (state, heard))

    def test_product(self):
        draw = source(872)
        core = dense_core()
        rows = exact(list(core.energy_form))
        first, second = some_state(draw, 4), some_state(draw, 4)
        wanted = sum(x * y for x, y in zip(first, applied(rows, second)))
        self.one(core.product(fracs(first), tuple(fracs(second))), wanted)
        self.one(core.energy(fracs(first)), value_of(rows, first))
        self.assertEqual(core.form(), core.energy_form)

    def test_energy_is_kept(self):
        draw = source(873)
        core = dense_core()
        for _ in range(4):
            record = play(core, fracs(some_state(draw, 4)), [fracs(some_state(draw, 2)) for _ in range(4)])
            self.assertEqual(core.energy(record.begin()) + record.energy_in, record.energy_left + record.energy_out)

    def test_lengths(self):
        core = dense_core()
        for call in (core.tick, core.back):
            self.refused(BadSizes, {"given": 3, "wanted": 4}, call, [0] * 3, [0])
            self.refused(BadSizes, {"given": 5, "wanted": 4}, call, [0] * 5, [0] * 2)
            self.refused(BadSizes, {"given": 1, "wanted": 2}, call, [0] * 4, [0])
            self.refused(BadSizes, {"given": 3, "wanted": 2}, call, [0] * 4, [0] * 3)
        self.refused(BadSizes, {"given": 3, "wanted": 4}, core.product, [0] * 3, [0] * 5)
        self.refused(BadSizes, {"given": 5, "wanted": 4}, core.product, [0] * 4, [0] * 5)

    def test_integers_are_numbers(self):
        core, state, knocks = dense_core(), [1, 2, 3, 4], [5, 6]
        for given in (core.tick(state, knocks), core.back(state, knocks)):
            self.all_fracs(given)
        self.assertEqual((state, knocks), ([1, 2, 3, 4], [5, 6]))

    def test_strengths_are_copied(self):
        strengths = [2]
        core = Core(A, B, C, D, form=Table([[2]]), strengths=strengths)
        strengths[0] = 9
        self.same(core.strengths, [2])


class NewCores(Looks, unittest.TestCase):
    def some_cores(self):
        yield dense_core()
        yield Core.of(WEB)
        yield Core.of(Pile([HALF, Frac(-1, 3), Frac(2, 5)], end=-1, strength=3))
        yield Core.of(Web(["level", "stream", "level"], [(0, 1, 1, 2)], [(0, 1), (1, HALF), (2, 5)]))
        yield Core.of(Web(["stream"], [(0, 0, 2, 2, -1)], []))
        yield Core.of(Web())

    def test_of(self):
        draw = source(880)
        for player in some_players(draw):
            core = Core.of(player)
            self.assertIs(type(core), Core)
            self.assertEqual((core.cells, core.ears, core.strengths), (player.cells, player.ears, player.strengths))
            state, knocks = fracs(some_state(draw, core.cells)), fracs(some_state(draw, core.ears))
            other = fracs(some_state(draw, core.cells))
            self.assertEqual(core.tick(state, knocks), player.tick(state, knocks))
            self.assertEqual(core.back(state, knocks), player.back(state, knocks))
            self.one(core.product(state, other), inner(player, state, other))
            self.assertEqual(core.product(state, other), player.product(state, other))
            self.assertEqual(Core.of(core), core)

    def test_of_large_web(self):
        web = Web(["level"] * 8, [(k, 7 - k, 1, k + 1) for k in range(7)] + [(0, 0, 5, HALF)], [(k, 1) for k in range(4)])
        core = Core.of(web)
        state = list(range(24))
        self.assertEqual((core.cells, core.ears), (24, 4))
        self.assertEqual(core.tick(state, [1, 2, 3, 4]), web.tick(state, [1, 2, 3, 4]))

    def test_backward(self):
        draw = source(881)
        for core in self.some_cores():
            other = core.backward()
            self.assertEqual((other.energy_form, other.strengths), (core.energy_form, core.strengths))
            state, heard = fracs(some_state(draw, core.cells)), fracs(some_state(draw, core.ears))
            self.assertEqual(other.tick(state, heard), core.back(state, heard))
            self.assertEqual(other.backward(), core)
            for one, table in zip(echoes(core, 5), echoes(other, 5)):
                for a in range(core.ears):
                    for b in range(core.ears):
                        self.assertEqual(table[a, b], one[b, a] * core.strengths[b].over(core.strengths[a]))

    def test_backward_and_flip(self):
        draw = source(882)
        for told in told_webs(draw, 6):
            if told.cells <= 12:
                web = web_of(told)
                core = Core.of(web)
                flips = Table([web.flip(state) for state in units(web.cells)], width=web.cells).transposed()
                state = fracs(some_state(draw, web.cells))
                self.assertEqual(Lead(core.backward(), core, flips)(state), web.flip(state))

    def test_dual(self):
        draw = source(883)
        for core in self.some_cores():
            other = core.dual()
            self.assertEqual((other.a, other.energy_form), (core.a, core.energy_form))
            self.assertEqual(list(other.strengths), [Frac(1).over(z) for z in core.strengths])
            state, knocks = fracs(some_state(draw, core.cells)), fracs(some_state(draw, core.ears))
            new, heard = core.tick(state, knocks)
            given = other.tick(state, [z * u for z, u in zip(core.strengths, knocks)])
            self.assertEqual(given, (new, [-(z * h) for z, h in zip(core.strengths, heard)]))
            self.assertEqual(other.dual(), core)

    def test_negated(self):
        draw = source(884)
        for core in self.some_cores():
            other = core.negated()
            state, knocks = fracs(some_state(draw, core.cells)), fracs(some_state(draw, core.ears))
            new, heard = core.tick(state, knocks)
            self.assertEqual(other.tick(state, knocks), (new, [-number for number in heard]))
            self.assertEqual((other.a, other.b, other.energy_form), (core.a, core.b, core.energy_form))
            self.assertEqual(other.strengths, core.strengths)
            self.assertEqual(echoes(other, 4), [-table for table in echoes(core, 4)])

    def test_reordered(self):
        draw = source(885)
        core = Core.of(Web(["level", "stream", "level"], [(0, 1, 1, 2)], [(0, 1), (1, HALF), (2, 5)]))
        for order in ([2, 0, 1], (0, 1, 2), [1, 2, 0]):
            other = core.reordered(order)
            self.assertEqual(list(other.strengths), [core.strengths[ear] for ear in order])
            state, knocks = fracs(some_state(draw, core.cells)), fracs(some_state(draw, 3))
            straight = [None] * 3
            for k, ear in enumerate(order):
                straight[ear] = knocks[k]
            new, heard = core.tick(state, straight)
            self.assertEqual(other.tick(state, knocks), (new, [heard[ear] for ear in order]))
            self.assertEqual(other.energy_form, core.energy_form)
        self.assertEqual(core.reordered([0, 1, 2]), core)
        for order in ([], [0, 1], [0, 1, 1], [0, 1, 3], [1, 2, 3], [0, 1, 2, 2], [-1, 0, 1], [0, 1, 2, 3], [0, 1, 10 ** 30]):
            self.refused(BadOrder, {}, core.reordered, order)
        self.assertEqual(Core.of(Web()).reordered([]), Core.of(Web()))

    def test_beside(self):
        draw = source(886)
        cores = list(self.some_cores())
        for one, other in zip(cores, cores[1:] + cores[:1]):
            if one.ears + other.ears <= 4:
                both = one.beside(other)
                self.assertEqual((both.cells, both.ears), (one.cells + other.cells, one.ears + other.ears))
                self.assertEqual(both.strengths, one.strengths + other.strengths)
                first, second = fracs(some_state(draw, one.cells)), fracs(some_state(draw, other.cells))
                knocks, more = fracs(some_state(draw, one.ears)), fracs(some_state(draw, other.ears))
                new, heard = both.tick(first + second, knocks + more)
                wanted, beside = one.tick(first, knocks), other.tick(second, more)
                self.assertEqual((new, heard), (wanted[0] + beside[0], wanted[1] + beside[1]))
                self.assertEqual(both.energy(first + second), one.energy(first) + other.energy(second))

    def test_beside_bounds(self):
        twelve = Core.of(Web(["level"], [(0, 0, 6, 1)], [(0, 1), (0, 2)]))
        both = twelve.beside(twelve)
        self.assertEqual((both.cells, both.ears), (24, 4))
        long = Core.of(Web(["level"], [(0, 0, 7, 1)], [(0, 1), (0, 2), (0, 3)]))
        self.refused(TooLarge, {"size": 26}, twelve.beside, long)
        self.refused(TooLarge, {"size": 28}, long.beside, long)
        short = Core.of(Web(["level"], [(0, 0, 1, 1)], [(0, 1), (0, 2), (0, 3)]))
        self.refused(BadCount, {"count": 5}, twelve.beside, short)

    def test_nothing_changes(self):
        core, order = dense_core(), [1, 0]
        for other in (core.backward(), core.dual(), core.negated(), core.reordered(order), core.beside(core)):
            self.assertNotEqual(other, core)
        self.assertEqual((core, order), (dense_core(), [1, 0]))


if __name__ == "__main__":
    unittest.main()
