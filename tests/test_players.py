"""Points 71 and 72, with points 12, 15 and 51: Player."""

import unittest
from fractions import Fraction

from rodwebs.errors import BadCount, BadSizes
from rodwebs.fracs import Frac
from rodwebs.players import Player
from rodwebs.tables import Table
from rodwebs.webs import Web
from tests.helpers import Looks, exact, fracs, source
from tests.told import some_state, told_webs

WEB = Web(["level", "stream"], [(0, 1, 2, Frac(1, 2))], [(0, 3), (1, Frac(2, 5))])


class Players(Looks, unittest.TestCase):
    def test_heir(self):
        self.assertEqual(Web.__bases__, (Player,))
        for name in ("tick", "back", "product"):
            self.assertIn(name, vars(Web))
        for name in ("rest", "energy", "form", "ear_energy", "alone"):
            self.assertIn(name, vars(Player))

    def test_attributes(self):
        self.assertEqual((WEB.cells, WEB.ears), (4, 2))
        self.assertEqual((type(WEB.cells), type(WEB.ears)), (int, int))
        self.assertIs(type(WEB.strengths), tuple)
        self.same(WEB.strengths, [3, Fraction(2, 5)])
        self.assertEqual((Web().cells, Web().ears, Web().strengths), (0, 0, ()))

    def test_rest(self):
        rest = WEB.rest()
        self.assertIs(type(rest), list)
        self.same(rest, [0, 0, 0, 0])
        rest[0] = 1
        self.same(WEB.rest(), [0, 0, 0, 0])
        self.assertEqual(Web(["level"], [], [(0, 1)]).rest(), [])

    def test_energy_and_form(self):
        draw = source(72)
        for told in told_webs(draw, 12):
            web = Web(*told.passed())
            state = some_state(draw, told.cells)
            self.one(web.energy(fracs(state)), told.product(state, state))
            self.one(web.energy(tuple(fracs(state))), told.product(state, state))
            form = web.form()
            self.assertIs(type(form), Table)
            self.assertEqual((form.height, form.width), (told.cells, told.cells))
            wanted = [[z if i == j else 0 for j in range(told.cells)] for i, z in enumerate(told.cell_strengths())]
            self.same(list(form), wanted)

    def test_ear_energy(self):
        draw = source(73)
        for told in told_webs(draw, 12):
            numbers = some_state(draw, len(told.ears))
            self.one(Web(*told.passed()).ear_energy(fracs(numbers)), told.heard_energy(numbers))
        self.one(WEB.ear_energy((1, Frac(-1, 2))), Fraction(31, 10))
        self.one(Web().ear_energy([]), 0)

    def test_alone(self):
        draw = source(74)
        for told in told_webs(draw, 12):
            web = Web(*told.passed())
            state = some_state(draw, told.cells)
            start = state
            for ticks in range(6):
                given = web.alone(fracs(start), ticks)
                self.assertIs(type(given), list)
                self.same(given, state)
                state = told.tick(state, [Fraction(0)] * len(told.ears))[0]

    def test_alone_long(self):
        state = [1, 0]
        web = Web(["level", "level"], [(0, 1, 1, 1)], [])
        self.same(web.alone(state, 200), [1, 0])
        self.same(web.alone(state, 199), [0, 1])
        self.assertEqual(state, [1, 0])
        given = web.alone(state, 0)
        given[0] = 7
        self.assertEqual(state, [1, 0])
        self.all_fracs(web.alone(state, 0))
        for ticks in (-1, 201, 10 ** 30):
            self.refused(BadCount, {"count": ticks}, web.alone, state, ticks)

    def test_wrong_lengths(self):
        for given in (0, 3, 5):
            state = [1] * given
            self.refused(BadSizes, {"given": given, "wanted": 4}, WEB.energy, state)
            self.refused(BadSizes, {"given": given, "wanted": 4}, WEB.alone, state, 1)
            self.refused(BadSizes, {"given": given, "wanted": 4}, WEB.alone, state, -1)
        for given in (0, 1, 3):
            self.refused(BadSizes, {"given": given, "wanted": 2}, WEB.ear_energy, [1] * given)

    def test_wrong_lengths_of_two(self):
        for call in (WEB.tick, WEB.back):
            self.refused(BadSizes, {"given": 3, "wanted": 4}, call, [0] * 3, [0] * 3)
            self.refused(BadSizes, {"given": 3, "wanted": 2}, call, [0] * 4, [0] * 3)
            self.refused(BadSizes, {"given": 0, "wanted": 2}, call, [0] * 4, [])
            self.refused(BadSizes, {"given": 5, "wanted": 4}, call, [0] * 5, [0] * 2)
        self.refused(BadSizes, {"given": 3, "wanted": 4}, WEB.product, [0] * 3, [0] * 5)
        self.refused(BadSizes, {"given": 5, "wanted": 4}, WEB.product, [0] * 4, [0] * 5)

    def test_strengths_stay(self):
        self.assertEqual(exact(WEB.strengths), [3, Fraction(2, 5)])


if __name__ == "__main__":
    unittest.main()
