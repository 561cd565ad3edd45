"""Points 68 and 69: Ratio."""

import operator
import unittest
from fractions import Fraction

from rodwebs.errors import BadCount, DivisionByZero, TooLarge
from rodwebs.fracs import Frac
from rodwebs.polys import Poly
from rodwebs.powers import Powers
from rodwebs.ratios import Ratio
from tests.helpers import Looks, exact, frac, fracs, some_fraction, source


def value(numbers, x):
    return sum((number * x ** k for k, number in enumerate(numbers)), Fraction(0))


def ratio(top, bottom=(1,)):
    return Ratio(Poly(list(top)), Poly(list(bottom)))


class RatioLooks(Looks):
    def holds(self, given, top, bottom):
        self.assertIs(type(given), Ratio)
        self.assertEqual((type(given.top), type(given.bottom)), (Poly, Poly))
        self.same(given.top.coefficients, top)
        self.same(given.bottom.coefficients, bottom)

    def lowest(self, given):
        """The constant of the bottom is 1 and both have no common divisor."""
        self.one(given.bottom.coefficients[0], 1)
        self.assertEqual(Poly.common(given.top, given.bottom).degree, 0)


class Making(RatioLooks, unittest.TestCase):
    def test_lowest_terms(self):
        self.holds(ratio([1, 2], [3, 4]), [Fraction(1, 3), Fraction(2, 3)], [1, Fraction(4, 3)])
        self.holds(ratio([-1, 0, 1], [1, 1]), [-1, 1], [1])
        self.holds(ratio([-1, 0, 1], [-2, -2]), [Fraction(1, 2), Fraction(-1, 2)], [1])
        self.holds(ratio([0, 1], [0, 2, 4]), [Fraction(1, 2)], [1, 2])
        self.holds(ratio([5], [Frac(1, 2)]), [10], [1])
        self.holds(ratio([0, 0, 3], [0, 0, 6]), [Fraction(1, 2)], [1])

    def test_zero(self):
        for bottom in ([1], [5, 2], [0, 1], [0, 0, 7], [0] * 100 + [1]):
            self.holds(ratio([], bottom), [], [1])
            self.holds(ratio([0, 0], bottom), [], [1])

    def test_refused(self):
        for top, bottom in [([1], []), ([], []), ([1, 2], [0, 0]), ([1], [0, 1]), ([1, 1], [0, 2]),
                            ([0, 1], [0, 0, 1]), ([1], [0] * 100 + [1])]:
            self.refused(DivisionByZero, {}, ratio, top, bottom)

    def test_copies(self):
        top = Poly([1, 1])
        made = Ratio(top, Poly([1, 2]))
        top += 1
        self.holds(made, [1, 1], [1, 2])


class Signs(RatioLooks, unittest.TestCase):
    def drawn(self):
        draw = source(69)
        for sizes in [(1, 1, 1, 1), (3, 2, 2, 3), (2, 3, 3, 1), (0, 1, 3, 3), (4, 4, 4, 4), (2, 2, 0, 2)]:
            for _ in range(3):
                tops = [[some_fraction(draw, 4) for _ in range(size)] for size in (sizes[0], sizes[2])]
                bottoms = [[Fraction(draw.choice([1, 2, -3]))] + [some_fraction(draw, 4) for _ in range(size - 1)]
                           for size in (sizes[1], sizes[3])]
                yield tops[0], bottoms[0], tops[1], bottoms[1]

    def agrees(self, given, wanted, xs):
        """The quotient has the wanted values, and is in lowest terms."""
        self.lowest(given)
        for x in xs:
            try:
                told = wanted(x)
            except ZeroDivisionError:
                continue
            self.one(given(frac(x)), told)

    def test_two_ratios(self):
        xs = [Fraction(k, 3) for k in range(-20, 20)]
        for one, two, three, four in self.drawn():
            first = Ratio(Poly(fracs(one)), Poly(fracs(two)))
            second = Ratio(Poly(fracs(three)), Poly(fracs(four)))
            self.agrees(first + second, lambda x: value(one, x) / value(two, x) + value(three, x) / value(four, x), xs)
            self.agrees(first - second, lambda x: value(one, x) / value(two, x) - value(three, x) / value(four, x), xs)
            self.agrees(first * second, lambda x: value(one, x) / value(two, x) * value(three, x) / value(four, x), xs)
            self.agrees(-first, lambda x: -value(one, x) / value(two, x), xs)
            if not any(three):
                self.refused(DivisionByZero, {}, first.over, second)
            elif second.top.coefficients[0] != 0:
                self.agrees(first.over(second),
                            lambda x: value(one, x) / value(two, x) / (value(three, x) / value(four, x)), xs)

    def test_with_a_number(self):
        made = ratio([1, 2], [1, 3])
        for factor in (2, Frac(2), Frac(-1, 3), 0):
            worth = exact(factor)
            self.holds(made + factor, *self.trimmed([1 + worth, 2 + 3 * worth], [1, 3]))
            self.holds(factor + made, *self.trimmed([1 + worth, 2 + 3 * worth], [1, 3]))
            self.holds(made - factor, *self.trimmed([1 - worth, 2 - 3 * worth], [1, 3]))
            self.holds(factor - made, *self.trimmed([worth - 1, 3 * worth - 2], [1, 3]))
            self.holds(made * factor, *self.trimmed([worth, 2 * worth], [1, 3]))
            self.holds(factor * made, *self.trimmed([worth, 2 * worth], [1, 3]))

    def trimmed(self, top, bottom):
        return (top, bottom) if any(top) else ([], [1])

    def test_cancelled(self):
        self.holds(ratio([1], [1, 1]) + ratio([1], [1, -1]), [2], [1, 0, -1])
        self.holds(ratio([1], [1, 1]) + ratio([0, 1], [1, 1]), [1], [1])
        self.holds(ratio([1, 1], [1, 2]) * ratio([1, 2], [1, 1]), [1], [1])
        self.holds(ratio([1, 1], [1, 2]) - ratio([1, 1], [1, 2]), [], [1])
        self.holds(ratio([0, 1], [1, 2]).over(ratio([0, 3])), [Fraction(1, 3)], [1, 2])
        self.holds(-ratio([1, 1], [1, 2]), [-1, -1], [1, 2])

    def test_over_refused(self):
        self.refused(DivisionByZero, {}, ratio([1]).over, ratio([]))
        self.refused(DivisionByZero, {}, ratio([]).over, ratio([]))
        self.refused(DivisionByZero, {}, ratio([1]).over, ratio([0, 1]))
        self.refused(DivisionByZero, {}, ratio([0, 1]).over, ratio([0, 0, 1]))
        self.holds(ratio([]).over(ratio([0, 1])), [], [1])

    def test_equal(self):
        self.truth(ratio([1, 2], [1, 3]) == ratio([2, 4], [2, 6]), True)
        self.truth(ratio([1, 2], [1, 3]) != ratio([2, 4], [2, 6]), False)
        self.truth(ratio([1, 2], [1, 3]) == ratio([1, 2], [1, 4]), False)
        self.truth(ratio([1, 2], [1, 3]) == ratio([1, 1], [1, 3]), False)
        self.truth(ratio([2]) == 2, False)
        self.truth(ratio([2]) != Poly([2]), True)

    def test_nothing_changes(self):
        made = ratio([1], [1, 1])
        same = made
        made += 1
        made *= made
        self.holds(same, [1], [1, 1])
        self.holds(made, [4, 4, 1], [1, 2, 1])


class TooLong(RatioLooks, unittest.TestCase):
    """Which products are refused, and in which order: nothing is cancelled ahead."""

    def of(self, top, bottom):
        """A quotient with these degrees; -1 for zero."""
        above = [0] * top + [1] if top >= 0 else []
        return Ratio(Poly(above), Poly([1] + [0] * (bottom - 1) + [1] if bottom else [1]))

    def test_sum_and_difference(self):
        for first, second, size in [((60, 0), (0, 41), 101), ((0, 41), (60, 0), 101), ((0, 60), (0, 41), 101),
                                    ((60, 30), (80, 50), 110), ((10, 30), (80, 50), 110), ((10, 60), (30, 50), 110),
                                    ((60, 50), (90, 60), 120), ((20, 50), (90, 60), 140), ((1, 50), (2, 60), 110)]:
            for change in (operator.add, operator.sub):
                self.refused(TooLarge, {"size": size}, change, self.of(*first), self.of(*second))
        made = self.of(50, 50) + self.of(50, 50)
        self.assertEqual((made.top.degree, made.bottom.degree), (50, 50))

    def test_bounds(self):
        made = self.of(50, 40) + self.of(60, 50)
        self.assertEqual((made.top.degree, made.bottom.degree), (100, 90))
        made = self.of(50, 40) * self.of(50, 60)
        self.assertEqual((made.top.degree, made.bottom.degree), (100, 100))

    def test_product(self):
        for first, second, size in [((60, 0), (41, 0), 101), ((0, 60), (0, 41), 101), ((60, 70), (50, 80), 110),
                                    ((60, 30), (30, 80), 110)]:
            self.refused(TooLarge, {"size": size}, operator.mul, self.of(*first), self.of(*second))

    def test_nothing_is_cancelled_ahead(self):
        # Each is the inverse of the other one, so the product is 1, but the products of the polynomials are too long.
        one = Ratio(Poly([1] + [0] * 50 + [1]), Poly([1, 1]))
        other = Ratio(Poly([1, 1]), Poly([1] + [0] * 50 + [1]))
        self.assertEqual((one * other), ratio([1]))
        longer = Ratio(Poly([1] + [0] * 59 + [1]), Poly([1] + [0] * 40 + [2]))
        inverse = Ratio(longer.bottom, longer.top)
        self.refused(TooLarge, {"size": 101}, operator.mul, longer, inverse)
        self.refused(TooLarge, {"size": 101}, longer.over, longer)
        self.refused(TooLarge, {"size": 101}, operator.add, longer, longer)

    def test_quotient(self):
        for first, second, size in [((60, 0), (0, 41), 101), ((60, 70), (60, 50), 110), ((0, 70), (60, 0), 130),
                                    ((0, 60), (41, 0), 101)]:
            self.refused(TooLarge, {"size": size}, self.of(*first).over, self.of(*second))

    def test_quotient_order(self):
        self.refused(DivisionByZero, {}, self.of(100, 100).over, self.of(-1, 0))
        self.refused(TooLarge, {"size": 150}, self.of(0, 100).over, self.of(50, 0))
        self.refused(DivisionByZero, {}, self.of(0, 50).over, self.of(50, 0))

    def test_numbers_and_zero(self):
        made = self.of(100, 100)
        self.assertEqual(((made + 1).top.degree, (made + 1).bottom.degree), (100, 100))
        self.assertEqual((2 * made).top.degree, 100)
        self.assertEqual((made * self.of(-1, 0)).top.degree, -1)
        self.refused(TooLarge, {"size": 200}, operator.sub, made, made)


class Work(RatioLooks, unittest.TestCase):
    def test_value(self):
        made = ratio([1, 2], [1, -3])
        self.one(made(0), 1)
        self.one(made(Frac(1, 2)), -4)
        self.one(made(Frac(-1, 2)), 0)
        self.refused(DivisionByZero, {}, made, Frac(1, 3))
        self.one(ratio([])(Frac(5)), 0)

    def test_powers(self):
        made = ratio([1, 2], [1, -3])
        wanted = [1] + [5 * 3 ** (k - 1) for k in range(1, 100)]
        for count in (0, 1, 2, 7, 100):
            powers = made.powers(count)
            self.assertIs(type(powers), Powers)
            self.same(list(powers), wanted[:count])
        self.same(list(ratio([]).powers(3)), [0, 0, 0])
        self.same(list(ratio([0, 5]).powers(3)), [0, 5, 0])
        for count in (-1, 101, 10 ** 30):
            self.refused(BadCount, {"count": count}, made.powers, count)


if __name__ == "__main__":
    unittest.main()
