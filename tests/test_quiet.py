"""Point 99, with points 28 and 29: step_numbers, quiet, quiet_form, noise, pile_of_bottom."""

import unittest
from fractions import Fraction

from rodwebs.errors import BadBottom, BadCount, BadEnd, Loud
from rodwebs.fracs import Frac
from rodwebs.piles import Pile
from rodwebs.polys import Poly
from rodwebs.quiet import noise, pile_of_bottom, quiet, quiet_form, step_numbers
from rodwebs.ratios import Ratio
from rodwebs.solving import dip
from rodwebs.tables import Table
from tests.helpers import Looks, exact, fracs, source, value_of
from tests.players import pile_of_told
from tests.told import some_pile

HALF = Frac(1, 2)
ONE = Poly([1])


def told_steps(coefficients, size):
    """The step numbers as point 29 tells them, on lists of Fractions."""
    q = [Fraction(x) for x in coefficients] + [Fraction(0)] * (size + 1 - len(coefficients))
    p = q[::-1]
    found = []
    for _ in range(size):
        c = p[0]
        found.append(c)
        if not -1 < c < 1:
            break
        q = [(x - c * y) / (1 - c * c) for x, y in zip(q, p)]
        p = [y - c * x for x, y in zip(q, p)]
        assert p[0] == 0
        p = p[1:] + [Fraction(0)]
    return found


def told_form(coefficients, size):
    q = [Fraction(x) for x in coefficients] + [Fraction(0)] * (size + 1 - len(coefficients))
    p = q[::-1]
    return [[sum((q[k - i] * q[k - j] - p[k - i] * p[k - j] for k in range(max(i, j), size)), Fraction(0))
             for j in range(size)] for i in range(size)]


def some_bottoms(draw, count):
    for _ in range(count):
        degree = draw.randint(0, 5)
        rest = [Fraction(draw.randint(-3, 3), draw.randint(1, 5)) for _ in range(degree)]
        yield [Fraction(1)] + rest, draw.randint(degree, 6)


class Steps(Looks, unittest.TestCase):
    def test_any(self):
        draw = source(990)
        ends = set()
        for coefficients, size in some_bottoms(draw, 60):
            given = step_numbers(Poly(fracs(coefficients)), size)
            self.assertIs(type(given), list)
            wanted = told_steps(coefficients, size)
            self.same(given, wanted)
            good = len(wanted) == size and all(-1 < x < 1 for x in wanted)
            ends.add((good, len(wanted)))
            self.truth(quiet(Poly(fracs(coefficients)), size), good)
        self.assertGreater(len(ends), 8)

    def test_known(self):
        self.assertEqual(step_numbers(ONE, 0), [])
        self.same(step_numbers(ONE, 3), [0, 0, 0])
        self.same(step_numbers(Poly([1, HALF]), 1), [Fraction(1, 2)])
        self.same(step_numbers(Poly([1, HALF]), 2), [0, Fraction(1, 2)])
        self.same(step_numbers(Poly([1, 1]), 1), [1])
        self.same(step_numbers(Poly([1, -1]), 1), [-1])
        self.same(step_numbers(Poly([1, 1]), 3), [0, 0, 1])
        self.same(step_numbers(Poly([1, 3, Frac(1, 3)]), 2), [Fraction(1, 3), Fraction(9, 4)])
        self.same(step_numbers(Poly([1, 0, 5]), 2), [5])
        self.truth(quiet(ONE, 0), True)
        self.truth(quiet(ONE, 24), True)
        self.truth(quiet(Poly([1, 1]), 1), False)
        self.truth(quiet(Poly([1, -1]), 24), False)
        self.truth(quiet(Poly([1, Frac(10 ** 59 - 1, 10 ** 59)]), 1), True)

    def test_panes(self):
        draw = source(991)
        for count in range(7):
            told = some_pile(draw, count)
            bottom = pile_of_told(told).ratio().bottom
            for more in (0, 1, 4):
                # Each pane that is more than needed is a 0 ahead of all others.
                self.same(step_numbers(bottom, count + more), [0] * more + [told.end * x for x in told.panes])
                self.truth(quiet(bottom, count + more), True)

    def test_sizes(self):
        draw = source(992)
        long = pile_of_told(some_pile(draw, 24, 4)).ratio().bottom
        self.assertEqual(len(step_numbers(long, 24)), 24)
        for call in (step_numbers, quiet, quiet_form, noise, pile_of_bottom):
            for size in (-1, 25, 10 ** 30, -10 ** 30):
                self.refused(BadCount, {"count": size}, call, ONE, size)
            for size in (0, 1, 2, 25):
                self.refused(BadCount, {"count": size}, call, Poly([1, 0, 0, 7]), size)
            self.refused(BadCount, {"count": 24}, call, Poly([1] + [0] * 24 + [1]), 24)
            self.refused(BadCount, {"count": 25}, call, Poly([1] + [0] * 24 + [1]), 25)

    def test_bottoms(self):
        for call in (step_numbers, quiet, quiet_form, noise, pile_of_bottom):
            for bottom in (Poly([]), Poly([2]), Poly([-1, 1]), Poly([0, 1]), Poly([HALF, 1, 1])):
                self.refused(BadBottom, {}, call, bottom, 3)
                self.refused(BadBottom, {}, call, bottom, -1)


class Forms(Looks, unittest.TestCase):
    def test_forms(self):
        draw = source(993)
        for coefficients, size in some_bottoms(draw, 40):
            bottom = Poly(fracs(coefficients))
            form = quiet_form(bottom, size)
            self.assertIs(type(form), Table)
            self.assertEqual((form.height, form.width), (size, size))
            self.same(list(form), told_form(coefficients, size))
            self.assertEqual(dip(form) is None, quiet(bottom, size))

    def test_noise(self):
        draw = source(994)
        some = {True: 0, False: 0}
        for coefficients, size in some_bottoms(draw, 40):
            bottom = Poly(fracs(coefficients))
            given = noise(bottom, size)
            some[given is None] += 1
            self.assertEqual(given is None, quiet(bottom, size))
            if given is not None:
                self.assertIs(type(given), tuple)
                self.all_fracs(given)
                self.assertEqual(len(given), size)
                self.assertTrue(any(given))
                self.assertLessEqual(value_of(told_form(coefficients, size), exact(given)), 0)
        self.assertGreater(min(some.values()), 5)

    def test_edges(self):
        self.assertEqual(quiet_form(ONE, 0), Table([]))
        self.assertIsNone(noise(ONE, 0))
        self.assertEqual(quiet_form(ONE, 3), Table.unit(3))
        self.same(list(quiet_form(Poly([1, HALF]), 1)), [[Fraction(3, 4)]])
        self.same(list(quiet_form(Poly([1, 1]), 1)), [[0]])
        self.assertEqual(len(noise(Poly([1, 1]), 1)), 1)
        self.assertIsNone(noise(ONE, 24))


class PilesOfBottoms(Looks, unittest.TestCase):
    def test_piles(self):
        draw = source(995)
        for count in range(7):
            told = some_pile(draw, count)
            pile = pile_of_told(told)
            ratio = pile.ratio()
            made = pile_of_bottom(ratio.bottom, count, end=told.end)
            self.assertIs(type(made), Pile)
            self.assertEqual(made, Pile(pile.panes, end=told.end))
            self.assertEqual(made.ratio(), ratio)
            other = pile_of_bottom(ratio.bottom, count, end=-told.end)
            self.assertEqual(other, made.negated())
            self.assertEqual(other.ratio(), Ratio(-ratio.top, ratio.bottom))
            self.assertEqual(pile_of_bottom(ratio.bottom, count).end, 1)

    def test_more_panes(self):
        for size in (1, 2, 5, 24):
            for end in (1, -1):
                made = pile_of_bottom(Poly([1, HALF]), size, end=end)
                self.assertEqual((len(made), made.end), (size, end))
                self.same(made.strengths, [1])
                self.assertEqual(made.ratio().bottom, Poly([1, HALF]))
        self.assertEqual(pile_of_bottom(ONE, 0, end=-1), Pile([], end=-1))

    def test_refused(self):
        loud = Poly([1, 1])
        for end in (0, 2, -2, 10 ** 30):
            self.refused(BadEnd, {"end": end}, pile_of_bottom, loud, 1, end=end)
        self.refused(BadCount, {"count": 0}, pile_of_bottom, loud, 0, end=0)
        self.refused(BadBottom, {}, pile_of_bottom, Poly([2, 1]), 0, end=0)
        self.refused(Loud, {"index": 0}, pile_of_bottom, loud, 1)
        self.refused(Loud, {"index": 2}, pile_of_bottom, loud, 3, end=-1)
        self.refused(Loud, {"index": 1}, pile_of_bottom, Poly([1, 3, Frac(1, 3)]), 2)
        self.refused(Loud, {"index": 0}, pile_of_bottom, Poly([1, 0, 5]), 2, end=-1)

    def test_indexes(self):
        draw = source(996)
        seen = set()
        for coefficients, size in some_bottoms(draw, 60):
            bottom = Poly(fracs(coefficients))
            steps = told_steps(coefficients, size)
            if quiet(bottom, size):
                self.same(pile_of_bottom(bottom, size).panes, steps)
            else:
                self.refused(Loud, {"index": len(steps) - 1}, pile_of_bottom, bottom, size)
                seen.add(len(steps) - 1)
        self.assertGreater(len(seen), 2)


if __name__ == "__main__":
    unittest.main()
