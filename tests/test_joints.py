"""Point 70, with points 8 and 11: scatter and common."""

import unittest
from fractions import Fraction

from rodwebs.errors import BadKind, BadSizes, BadStrength
from rodwebs.fracs import Frac
from rodwebs.joints import common, scatter
from tests.helpers import Looks, exact, fracs, some_fraction, some_strength, source


class Joints(Looks, unittest.TestCase):
    def test_told(self):
        self.one(common("level", [1, 3], [1, 0]), Fraction(1, 2))
        self.same(scatter("level", [1, 3], [1, 0]), [Fraction(-1, 2), Fraction(1, 2)])
        self.one(common("stream", [1, 2], [1, 0]), Fraction(4, 3))
        self.same(scatter("stream", [1, 2], [1, 0]), [Fraction(-1, 3), Fraction(-2, 3)])
        self.same(scatter("level", (5,), (Frac(2, 3),)), [Fraction(2, 3)])
        self.same(scatter("stream", [Frac(1, 5)], [Frac(2, 3)]), [Fraction(-2, 3)])
        self.one(common("level", [7], [3]), 6)
        self.one(common("stream", [7], [3]), 42)

    def test_by_the_rules(self):
        draw = source(70)
        for kind in ("level", "stream"):
            for count in (1, 2, 3, 5, 8):
                z = [some_strength(draw) for _ in range(count)]
                a = [some_fraction(draw) for _ in range(count)]
                given = scatter(kind, fracs(z), fracs(a))
                self.assertIs(type(given), list)
                self.all_fracs(given)
                b = exact(given)
                middle = common(kind, fracs(z), fracs(a))
                self.assertIs(type(middle), Frac)
                middle = exact(middle)
                if kind == "level":
                    self.assertEqual([x + y for x, y in zip(a, b)], [middle] * count)
                    self.assertEqual(sum(s * (x - y) for s, x, y in zip(z, a, b)), 0)
                else:
                    self.assertEqual([s * (x - y) for s, x, y in zip(z, a, b)], [middle] * count)
                    self.assertEqual(sum(x + y for x, y in zip(a, b)), 0)
                self.assertEqual(sum(s * y * y for s, y in zip(z, b)), sum(s * x * x for s, x in zip(z, a)))
                self.same(scatter(kind, fracs(z), given), a)

    def test_without_arms(self):
        for kind in ("level", "stream"):
            self.one(common(kind, [], []), 0)
            self.assertEqual(scatter(kind, (), ()), [])

    def test_kinds_of_numbers(self):
        self.same(scatter("level", [1, Frac(1)], (2, Frac(4))), [4, 2])
        self.same(scatter("stream", (1, Frac(1)), [2, Frac(4)]), [-4, -2])

    def test_refused(self):
        for call in (scatter, common):
            for kind in ("", "Level", "level ", "ear", "streams"):
                self.refused(BadKind, {"kind": kind}, call, kind, [1], [1])
            for strength in (0, -1, Frac(-1, 2), Frac(0)):
                error = self.refused(BadStrength, {"strength": strength}, call, "level", [1, strength, -7], [1, 1, 1])
                self.assertIs(error.strength, strength)
            self.refused(BadSizes, {"given": 1, "wanted": 2}, call, "stream", [1, 1], [1])
            self.refused(BadSizes, {"given": 3, "wanted": 2}, call, "level", [1, 1], [1, 1, 1])
            self.refused(BadSizes, {"given": 1, "wanted": 0}, call, "level", [], [1])

    def test_order_of_errors(self):
        for call in (scatter, common):
            self.refused(BadKind, {"kind": "x"}, call, "x", [0], [])
            self.refused(BadStrength, {"strength": 0}, call, "level", [1, 0], [])

    def test_arguments_stay(self):
        strengths, arriving = [1, Frac(2)], [3, Frac(4)]
        scatter("level", strengths, arriving)[0] = 9
        common("stream", strengths, arriving)
        self.assertEqual((strengths, arriving), ([1, 2], [3, 4]))
        self.assertIs(type(arriving[0]), int)


if __name__ == "__main__":
    unittest.main()
