"""Points 66 and 67: Poly."""

import operator
import unittest
from fractions import Fraction

from rodwebs.errors import BadCount, DivisionByZero, TooLarge
from rodwebs.fracs import Frac
from rodwebs.polys import Poly
from rodwebs.powers import Powers
from tests.helpers import Looks, exact, frac, fracs, some_fraction, source


def trimmed(numbers):
    out = list(numbers)
    while out and out[-1] == 0:
        out.pop()
    return out


def product(one, other):
    out = [Fraction(0)] * max(0, len(one) + len(other) - 1)
    for i, x in enumerate(one):
        for j, y in enumerate(other):
            out[i + j] += x * y
    return trimmed(out)


def added(one, other, sign=1):
    size = max(len(one), len(other))
    longer = [list(numbers) + [Fraction(0)] * (size - len(numbers)) for numbers in (one, other)]
    return trimmed(x + sign * y for x, y in zip(*longer))


class PolyLooks(Looks):
    def holds(self, poly, numbers):
        self.assertIs(type(poly), Poly)
        self.assertIs(type(poly.coefficients), tuple)
        self.same(poly.coefficients, numbers)
        self.assertEqual(poly.degree, len(numbers) - 1)
        self.assertIs(type(poly.degree), int)


def drawn():
    draw = source(67)
    for one, other in [(1, 1), (3, 3), (4, 2), (2, 5), (0, 3), (3, 0), (0, 0), (6, 6), (7, 1)]:
        yield (trimmed(some_fraction(draw) for _ in range(one)), trimmed(some_fraction(draw) for _ in range(other)))
    yield [Fraction(1), Fraction(2)], [Fraction(3), Fraction(-2)]
    yield [Fraction(1), Fraction(2)], [Fraction(-1), Fraction(-2)]


class Making(PolyLooks, unittest.TestCase):
    def test_coefficients(self):
        self.holds(Poly([1, Frac(1, 2), 0, 0]), [1, Fraction(1, 2)])
        self.holds(Poly((0, 0, Frac(4, 2))), [0, 0, 2])
        self.holds(Poly([]), [])
        self.holds(Poly([0]), [])
        self.holds(Poly([0, Frac(0), 0]), [])
        self.holds(Poly([7]), [7])
        self.assertEqual(Poly([]).degree, -1)

    def test_most(self):
        self.holds(Poly([0] * 100 + [1]), [0] * 100 + [1])
        self.holds(Poly([1] * 101 + [0] * 199), [1] * 101)
        self.refused(BadCount, {"count": 102}, Poly, [0] * 101 + [1])
        self.refused(BadCount, {"count": 103}, Poly, [0] * 102 + [1] + [0] * 7)
        self.refused(BadCount, {"count": 300}, Poly, [1] * 300)

    def test_copies(self):
        numbers = [1, 2]
        poly = Poly(numbers)
        numbers[0] = 5
        self.holds(poly, [1, 2])
        self.assertEqual(numbers, [5, 2])


class Signs(PolyLooks, unittest.TestCase):
    def test_two_polys(self):
        for one, other in drawn():
            first, second = Poly(fracs(one)), Poly(fracs(other))
            self.holds(first + second, added(one, other))
            self.holds(first - second, added(one, other, -1))
            self.holds(first * second, product(one, other))
            self.holds(-first, [-x for x in one])
            self.holds(first, one)

    def test_with_a_number(self):
        for numbers in ([], [Fraction(3)], [Fraction(-2)], [Fraction(1, 2), Fraction(0), Fraction(-4)]):
            for factor in (2, Frac(2), 0, Frac(-1, 3), Frac(0)):
                worth = exact(factor)
                poly = Poly(fracs(numbers))
                self.holds(poly + factor, added(numbers, [worth]))
                self.holds(factor + poly, added(numbers, [worth]))
                self.holds(poly - factor, added(numbers, [worth], -1))
                self.holds(factor - poly, added([worth], numbers, -1))
                self.holds(poly * factor, product(numbers, trimmed([worth])))
                self.holds(factor * poly, product(numbers, trimmed([worth])))

    def test_product_too_large(self):
        first, second = Poly([1] * 61), Poly([1] * 41)
        self.assertEqual((first * second).degree, 100)
        self.one((first * second).coefficients[100], 1)
        self.one((first * second).coefficients[50], 41)
        longer = Poly([0] * 41 + [1])
        self.refused(TooLarge, {"size": 101}, operator.mul, first, longer)
        self.refused(TooLarge, {"size": 101}, operator.mul, longer, first)
        self.refused(TooLarge, {"size": 200}, operator.mul, Poly([0] * 100 + [1]), Poly([0] * 100 + [1]))
        self.holds(Poly([0] * 100 + [1]) * Poly([2]), [0] * 100 + [2])
        self.holds(Poly([0] * 100 + [1]) * Poly([]), [])
        self.refused(TooLarge, {"size": 101}, operator.mul, Poly([0] * 100 + [1]), Poly([0, 1]))
        self.holds(Poly([1] * 101) * 3, [3] * 101)
        self.holds(Poly([1] * 101) + Poly([1] * 101), [2] * 101)

    def test_quotient_and_rest(self):
        for one, other in drawn():
            first, second = Poly(fracs(one)), Poly(fracs(other))
            if not other:
                self.refused(DivisionByZero, {}, operator.floordiv, first, second)
                self.refused(DivisionByZero, {}, operator.mod, first, second)
                continue
            quotient, rest = first // second, first % second
            self.assertLess(rest.degree, second.degree)
            whole = exact(quotient.coefficients)
            self.assertEqual(added(product(whole, other), exact(rest.coefficients)), one)
            self.holds(quotient, whole)
            self.holds(rest, exact(rest.coefficients))
        self.holds(Poly([-1, 0, 1]) // Poly([1, 1]), [-1, 1])
        self.holds(Poly([-1, 0, 1]) % Poly([1, 1]), [])
        self.holds(Poly([5, 0, 3]) // Poly([1, 2]), [Fraction(-3, 4), Fraction(3, 2)])
        self.holds(Poly([5, 0, 3]) % Poly([1, 2]), [Fraction(23, 4)])
        self.holds(Poly([1, 1]) // Poly([0, 0, 1]), [])
        self.holds(Poly([1, 1]) % Poly([0, 0, 1]), [1, 1])
        self.holds(Poly([]) // Poly([2]), [])
        for first in (Poly([]), Poly([1, 2])):
            self.refused(DivisionByZero, {}, operator.floordiv, first, Poly([0]))
            self.refused(DivisionByZero, {}, operator.mod, first, Poly([0]))

    def test_equal(self):
        self.truth(Poly([1, 2]) == Poly((Frac(1), Frac(4, 2), 0)), True)
        self.truth(Poly([1, 2]) != Poly((Frac(1), Frac(4, 2), 0)), False)
        self.truth(Poly([1, 2]) == Poly([1, 2, 1]), False)
        self.truth(Poly([]) == Poly([0]), True)
        self.truth(Poly([2]) == 2, False)
        self.truth(Poly([1, 2]) == Powers([1, 2]), False)
        self.truth(Poly([1, 2]) != (1, 2), True)

    def test_nothing_changes(self):
        poly = Poly([1, 2])
        same = poly
        poly += 1
        poly *= Poly([0, 1])
        self.holds(same, [1, 2])
        self.holds(poly, [0, 2, 2])


class Work(PolyLooks, unittest.TestCase):
    def test_value(self):
        numbers = [Fraction(1, 2), Fraction(-3), Fraction(0), Fraction(5, 7)]
        poly = Poly(fracs(numbers))
        for x in (Fraction(0), Fraction(1), Fraction(-2, 3), Fraction(10)):
            wanted = sum(number * x ** k for k, number in enumerate(numbers))
            self.one(poly(frac(x)), wanted)
            if x.denominator == 1:
                self.one(poly(int(x)), wanted)
        self.one(Poly([])(7), 0)
        self.one(Poly([4])(0), 4)

    def test_reversed_to(self):
        poly = Poly([1, 2, 3])
        self.holds(poly.reversed_to(2), [3, 2, 1])
        self.holds(poly.reversed_to(4), [0, 0, 3, 2, 1])
        self.holds(poly.reversed_to(100), [0] * 98 + [3, 2, 1])
        self.holds(Poly([0, 0, 5]).reversed_to(2), [5])
        self.holds(Poly([0, 0, 5]).reversed_to(3), [0, 5])
        self.holds(Poly([]).reversed_to(0), [])
        self.holds(Poly([]).reversed_to(100), [])
        self.holds(Poly([3]).reversed_to(0), [3])
        for size in (1, 0, -1, 101, 10 ** 30):
            self.refused(BadCount, {"count": size}, poly.reversed_to, size)
        for size in (-1, 101):
            self.refused(BadCount, {"count": size}, Poly([]).reversed_to, size)

    def test_powers(self):
        poly = Poly([1, Frac(1, 2), 3])
        for count in (0, 1, 2, 3, 5, 100):
            powers = poly.powers(count)
            self.assertIs(type(powers), Powers)
            self.same(list(powers), ([1, Fraction(1, 2), 3] + [0] * 100)[:count])
        self.same(list(Poly([]).powers(2)), [0, 0])
        self.same(list(Poly([1] * 101).powers(100)), [1] * 100)
        for count in (-1, 101):
            self.refused(BadCount, {"count": count}, poly.powers, count)

    def test_common(self):
        draw = source(671)
        for sizes in [(1, 2, 3), (3, 1, 1), (2, 4, 2), (4, 3, 3), (1, 1, 1)]:
            shared, one, other = [trimmed(some_fraction(draw) for _ in range(size)) + [Fraction(1)] for size in sizes]
            first, second = Poly(fracs(product(shared, one))), Poly(fracs(product(shared, other)))
            found = Poly.common(first, second)
            self.one(found.coefficients[-1], 1)
            # It divides both, what all common divisors divide divides it, and it is a sum of multiples of both.
            for poly in (first, second):
                self.holds(poly % found, [])
            self.holds(found % Poly(fracs(shared)), [])
            self.assertEqual(self.least_rest(first, second).degree, found.degree)

    def least_rest(self, first, second):
        """The last remainder that is not zero in Euclid's way, by the signs that other tests look at."""
        while second.degree >= 0:
            first, second = second, first % second
        return first

    def test_common_edges(self):
        self.holds(Poly.common(Poly([]), Poly([])), [])
        self.holds(Poly.common(Poly([]), Poly([2, 4])), [Fraction(1, 2), 1])
        self.holds(Poly.common(Poly([2, 4]), Poly([])), [Fraction(1, 2), 1])
        self.holds(Poly.common(Poly([6]), Poly([4])), [1])
        self.holds(Poly.common(Poly([6]), Poly([1, 2])), [1])
        self.holds(Poly.common(Poly([-1, 0, 1]), Poly([-2, 2])), [-1, 1])
        self.holds(Poly.common(Poly([0, 0, -3]), Poly([0, Frac(1, 2)])), [0, 1])
        self.holds(Poly.common(Poly([1, 1]), Poly([2, 1])), [1])

    def test_common_of_high_degrees(self):
        shared = Poly([1, -3] + [0] * 38 + [Frac(2, 3)])
        one, other = Poly([2] + [0] * 59 + [1]), Poly([5, 1] + [0] * 50 + [-7])
        found = Poly.common(shared * one, shared * other)
        self.holds(found, [Fraction(3, 2), Fraction(-9, 2)] + [0] * 38 + [1])


if __name__ == "__main__":
    unittest.main()
