"""Points 79, 80 and 81: webs made of other webs."""

import unittest
from fractions import Fraction

from rodwebs.errors import BadCount, BadOrder, BadStrength, NoEar, NoJoint, TooLarge
from rodwebs.fracs import Frac
from rodwebs.shapes import (
    dual, ears_ordered, re_eared, scaled, side_by_side, stretched, with_ear, without_ear,
)
from rodwebs.webs import Web
from tests.helpers import Looks, fracs, source
from tests.told import some_state, told_webs

WEB = Web(["level", "stream"], [(0, 1, 2, Frac(3, 4), -1), (1, 1, 1, 5)], [(1, 2), (0, Frac(1, 2)), (1, 7)])


def echo_tables(web, count):
    """The rows of the echo tables of a web of the program, in Fracs."""
    columns = []
    for knocked in range(web.ears):
        state, told = web.rest(), []
        knocks = [int(ear == knocked) for ear in range(web.ears)]
        for _ in range(count):
            state, heard = web.tick(state, knocks)
            told.append(heard)
            knocks = [0] * web.ears
        columns.append(told)
    return [[[columns[b][k][a] for b in range(web.ears)] for a in range(web.ears)] for k in range(count)]


class Duals(Looks, unittest.TestCase):
    def test_shape(self):
        made = dual(WEB)
        self.assertIs(type(made), Web)
        self.assertEqual(made, Web(["stream", "level"], [(0, 1, 2, Frac(4, 3), 1), (1, 1, 1, Frac(1, 5), -1)],
                                   [(1, Frac(1, 2)), (0, 2), (1, Frac(1, 7))]))
        self.assertEqual(dual(made), WEB)
        self.assertEqual(dual(Web()), Web())

    def test_tick(self):
        draw = source(79)
        for told in told_webs(draw, 20):
            web = Web(*told.passed())
            state, knocks = some_state(draw, told.cells), some_state(draw, len(told.ears))
            new, heard = told.tick(state, knocks)
            sizes, ears = told.cell_strengths(), [ear[1] for ear in told.ears]
            given = dual(web).tick(fracs([-s * x for s, x in zip(sizes, state)]),
                                   fracs([z * u for z, u in zip(ears, knocks)]))
            self.same(given[0], [-s * y for s, y in zip(sizes, new)])
            self.same(given[1], [-z * h for z, h in zip(ears, heard)])

    def test_echoes(self):
        for told in told_webs(source(80), 10):
            given = echo_tables(dual(Web(*told.passed())), 7)
            self.same(given, [[[-table[b][a] for b in range(len(table))] for a in range(len(table))]
                              for table in told.echoes(7)])


class Stretched(Looks, unittest.TestCase):
    def test_shape(self):
        self.assertEqual(stretched(WEB, 3), Web(["level", "stream"],
                                                [(0, 1, 6, Frac(3, 4), -1), (1, 1, 3, 5)],
                                                [(1, 2), (0, Frac(1, 2)), (1, 7)]))
        self.assertEqual(stretched(WEB, 1), WEB)
        self.assertEqual(stretched(WEB, 4).cells, 24)
        line = Web(["level", "level"], [(0, 1, 1, 1)])
        self.assertEqual(stretched(line, 12).rods, ((0, 1, 12, Frac(1), 1),))
        self.assertEqual(stretched(Web(["level"]), 12), Web(["level"]))

    def test_echoes(self):
        draw = source(81)
        for told in told_webs(draw, 15):
            for times in (1, 2, 3, 5):
                if told.cells * times <= 24:
                    given = echo_tables(stretched(Web(*told.passed()), times), 13)
                    zero = [[Fraction(0)] * len(told.ears) for _ in told.ears]
                    short = told.echoes(13)
                    self.same(given, [zero if k % times else short[k // times] for k in range(13)])

    def test_refused(self):
        for times in (0, 13, -1, 10 ** 30):
            self.refused(BadCount, {"count": times}, stretched, WEB, times)
            self.refused(BadCount, {"count": times}, stretched, Web(), times)
        self.refused(TooLarge, {"size": 30}, stretched, WEB, 5)
        self.refused(TooLarge, {"size": 72}, stretched, WEB, 12)
        long = Web(["level", "level"], [(0, 1, 12, 1)])
        self.refused(TooLarge, {"size": 48}, stretched, long, 2)
        self.refused(TooLarge, {"size": 288}, stretched, long, 12)


class Ears(Looks, unittest.TestCase):
    def test_scaled(self):
        made = scaled(WEB, Frac(2, 3))
        self.assertEqual(made, Web(["level", "stream"], [(0, 1, 2, Frac(1, 2), -1), (1, 1, 1, Frac(10, 3))],
                                   [(1, Frac(4, 3)), (0, Frac(1, 3)), (1, Frac(14, 3))]))
        self.assertEqual(scaled(WEB, 1), WEB)
        self.assertEqual(scaled(scaled(WEB, 5), Frac(1, 5)), WEB)
        self.assertEqual(scaled(Web(["level"], [], [(0, 1)]), 2), Web(["level"], [], [(0, 2)]))
        for factor in (0, -1, Frac(-1, 2), Frac(0)):
            error = self.refused(BadStrength, {"strength": factor}, scaled, WEB, factor)
            self.assertIs(error.strength, factor)
            self.refused(BadStrength, {"strength": factor}, scaled, Web(), factor)

    def test_re_eared(self):
        self.assertEqual(re_eared(WEB, 1, Frac(4, 2)), Web(WEB.joints, WEB.rods, [(1, 2), (0, 2), (1, 7)]))
        self.assertEqual(re_eared(WEB, 2, 1).ear_list, ((1, Frac(2)), (0, Frac(1, 2)), (1, Frac(1))))
        for ear in (3, -1, 10 ** 30):
            self.refused(NoEar, {"ear": ear}, re_eared, WEB, ear, 0)
        for strength in (0, Frac(-3, 5)):
            error = self.refused(BadStrength, {"strength": strength}, re_eared, WEB, 2, strength)
            self.assertIs(error.strength, strength)

    def test_with_ear(self):
        made = with_ear(WEB, 0, Frac(5, 3))
        self.assertEqual(made, Web(WEB.joints, WEB.rods, [(1, 2), (0, Frac(1, 2)), (1, 7), (0, Frac(5, 3))]))
        self.refused(BadCount, {"count": 5}, with_ear, made, 9, 0)
        for joint in (2, -1):
            self.refused(NoJoint, {"joint": joint}, with_ear, WEB, joint, 0)
        self.refused(NoJoint, {"joint": 0}, with_ear, Web(), 0, 1)
        for strength in (0, -2):
            self.refused(BadStrength, {"strength": strength}, with_ear, WEB, 1, strength)

    def test_without_ear(self):
        self.assertEqual(without_ear(WEB, 0), Web(WEB.joints, WEB.rods, [(0, Frac(1, 2)), (1, 7)]))
        self.assertEqual(without_ear(WEB, 1), Web(WEB.joints, WEB.rods, [(1, 2), (1, 7)]))
        self.assertEqual(without_ear(WEB, 2), Web(WEB.joints, WEB.rods, [(1, 2), (0, Frac(1, 2))]))
        for ear in (3, -1):
            self.refused(NoEar, {"ear": ear}, without_ear, WEB, ear)
        self.refused(NoEar, {"ear": 0}, without_ear, Web(["level"]), 0)

    def test_ears_ordered(self):
        self.assertEqual(ears_ordered(WEB, [2, 0, 1]), Web(WEB.joints, WEB.rods, [(1, 7), (1, 2), (0, Frac(1, 2))]))
        self.assertEqual(ears_ordered(WEB, (0, 1, 2)), WEB)
        self.assertEqual(ears_ordered(Web(), []), Web())
        for order in ([], [0, 1], [0, 1, 1], [0, 1, 3], [1, 2, 3], [0, 1, 2, 2], [-1, 0, 1], [0, 1, 2, 3], [2, 2, 2],
                      [0, 1, 10 ** 30]):
            self.refused(BadOrder, {}, ears_ordered, WEB, order)
        self.refused(BadOrder, {}, ears_ordered, Web(), [0])

    def test_nothing_changes(self):
        order, rods = [2, 0, 1], list(WEB.rods)
        for made in (ears_ordered(WEB, order), dual(WEB), stretched(WEB, 2), scaled(WEB, 2), re_eared(WEB, 0, 9),
                     with_ear(WEB, 0, 1), without_ear(WEB, 0), side_by_side(WEB, Web(["level"]))):
            self.assertNotEqual(made, WEB)
        self.assertEqual(order, [2, 0, 1])
        self.assertEqual(WEB, Web(["level", "stream"], rods, [(1, 2), (0, Frac(1, 2)), (1, 7)]))


class Beside(Looks, unittest.TestCase):
    def test_shape(self):
        other = Web(["stream", "level", "level"], [(2, 0, 1, 1), (1, 1, 2, Frac(1, 3), -1)], [(2, 4)])
        made = side_by_side(WEB, other)
        self.assertEqual(made, Web(["level", "stream", "stream", "level", "level"],
                                   [(0, 1, 2, Frac(3, 4), -1), (1, 1, 1, 5), (4, 2, 1, 1), (3, 3, 2, Frac(1, 3), -1)],
                                   [(1, 2), (0, Frac(1, 2)), (1, 7), (4, 4)]))
        self.assertEqual(side_by_side(), Web())
        self.assertEqual(side_by_side(WEB), WEB)
        self.assertEqual(side_by_side(Web(), WEB, Web()), WEB)
        three = side_by_side(Web(["level"], [], [(0, 1)]), Web(["stream"]), Web(["level", "level"], [(0, 1, 1, 2)]))
        self.assertEqual(three, Web(["level", "stream", "level", "level"], [(2, 3, 1, 2)], [(0, 1)]))

    def test_plays_as_both(self):
        draw = source(83)
        webs = [told for told in told_webs(draw, 12) if len(told.ears) <= 2 and told.cells <= 12
                and len(told.joints) <= 4 and len(told.rods) <= 4]
        for one, other in zip(webs, webs[1:]):
            both = side_by_side(Web(*one.passed()), Web(*other.passed()))
            first, second = some_state(draw, one.cells), some_state(draw, other.cells)
            knocks, more = some_state(draw, len(one.ears)), some_state(draw, len(other.ears))
            new, heard = both.tick(fracs(first + second), fracs(knocks + more))
            wanted, beside = one.tick(first, knocks), other.tick(second, more)
            self.same(new, wanted[0] + beside[0])
            self.same(heard, wanted[1] + beside[1])

    def test_too_many(self):
        joints = Web(["level"] * 5)
        rods = Web(["level"] * 2, [(0, 1, 1, 1)] * 5)
        cells = Web(["level"] * 2, [(0, 1, 7, 1)])
        ears = Web(["level"], [], [(0, 1)] * 3)
        self.refused(BadCount, {"count": 10}, side_by_side, joints, joints)
        self.refused(BadCount, {"count": 10}, side_by_side, rods, rods)
        self.refused(TooLarge, {"size": 28}, side_by_side, cells, cells)
        self.refused(BadCount, {"count": 6}, side_by_side, ears, ears)
        self.refused(BadCount, {"count": 16}, side_by_side, joints, joints, rods, rods, cells)
        self.refused(BadCount, {"count": 12}, side_by_side, rods, rods, cells, cells)
        self.refused(TooLarge, {"size": 28}, side_by_side, cells, cells, ears, ears)
        self.refused(BadCount, {"count": 9}, side_by_side, *[Web(["level"])] * 9)
        self.assertEqual(len(side_by_side(*[Web(["level"])] * 8).joints), 8)

    def test_just_fitting(self):
        half = Web(["level"] * 4, [(k, 3 - k, 1, 1) for k in range(3)] + [(0, 0, 3, Frac(1, 2))], [(0, 1), (1, 1)])
        made = side_by_side(half, half)
        self.assertEqual((len(made.joints), len(made.rods), made.cells, made.ears), (8, 8, 24, 4))


if __name__ == "__main__":
    unittest.main()
