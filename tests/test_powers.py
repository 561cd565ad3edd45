"""Points 64 and 65: Powers."""

import operator
import unittest
from fractions import Fraction

from rodwebs.errors import BadCount, BadPlace, DivisionByZero
from rodwebs.fracs import Frac
from rodwebs.powers import Powers
from tests.helpers import Looks, exact, fracs, some_fraction, source


def product(one, other):
    count = min(len(one), len(other))
    return [sum((one[i] * other[k - i] for i in range(k + 1)), Fraction(0)) for k in range(count)]


class PowersLooks(Looks):
    def holds(self, powers, numbers):
        self.assertIs(type(powers), Powers)
        self.same(list(powers), numbers)
        self.assertEqual(len(powers), len(numbers))
        self.assertIs(type(len(powers)), int)


class Making(PowersLooks, unittest.TestCase):
    def test_numbers(self):
        self.holds(Powers([1, Frac(1, 2), 0]), [1, Fraction(1, 2), 0])
        self.holds(Powers((Frac(4, 6),)), [Fraction(2, 3)])
        self.holds(Powers([]), [])
        self.holds(Powers([0, 0]), [0, 0])
        self.holds(Powers([1] * 100), [1] * 100)
        self.refused(BadCount, {"count": 101}, Powers, [1] * 101)
        self.refused(BadCount, {"count": 300}, Powers, [0] * 300)

    def test_places(self):
        powers = Powers([5, Frac(1, 2), 7])
        self.one(powers[0], 5)
        self.one(powers[1], Fraction(1, 2))
        self.one(powers[2], 7)
        for place in (3, -1, 10 ** 30):
            self.refused(BadPlace, {"place": place}, operator.getitem, powers, place)
        self.refused(BadPlace, {"place": 0}, operator.getitem, Powers([]), 0)

    def test_copies(self):
        numbers = [1, 2]
        powers = Powers(numbers)
        numbers[0] = 5
        list(powers)[0] = 7
        self.holds(powers, [1, 2])
        self.assertEqual(numbers, [5, 2])


class Signs(PowersLooks, unittest.TestCase):
    def drawn(self):
        draw = source(65)
        for one, other in [(1, 1), (3, 3), (4, 2), (2, 5), (0, 3), (3, 0), (0, 0), (7, 7)]:
            yield [some_fraction(draw) for _ in range(one)], [some_fraction(draw) for _ in range(other)]

    def test_two_powers(self):
        for one, other in self.drawn():
            first, second = Powers(fracs(one)), Powers(fracs(other))
            self.holds(first + second, [x + y for x, y in zip(one, other)])
            self.holds(first - second, [x - y for x, y in zip(one, other)])
            self.holds(first * second, product(one, other))
            self.holds(-first, [-x for x in one])
            self.holds(first, one)

    def test_with_a_number(self):
        for numbers in ([], [Fraction(3)], [Fraction(1, 2), Fraction(0), Fraction(-4)]):
            for factor in (2, Frac(2), 0, Frac(-1, 3)):
                worth = exact(factor)
                alone = ([worth] + [Fraction(0)] * len(numbers))[:len(numbers)]
                powers = Powers(fracs(numbers))
                self.holds(powers + factor, [x + y for x, y in zip(numbers, alone)])
                self.holds(factor + powers, [x + y for x, y in zip(numbers, alone)])
                self.holds(powers - factor, [x - y for x, y in zip(numbers, alone)])
                self.holds(factor - powers, [y - x for x, y in zip(numbers, alone)])
                self.holds(powers * factor, [x * worth for x in numbers])
                self.holds(factor * powers, [x * worth for x in numbers])

    def test_quotient(self):
        for one, other in self.drawn():
            first, second = Powers(fracs(one)), Powers(fracs(other))
            if not other or other[0] == 0:
                self.refused(DivisionByZero, {}, operator.floordiv, first, second)
                continue
            found = first // second
            self.assertEqual(len(found), min(len(one), len(other)))
            self.holds(found, exact(list(found)))
            self.assertEqual(product(exact(list(found)), other), one[:len(other)])
        self.holds(Powers([1, 0, 0, 0]) // Powers([1, -1, 0, 0]), [1, 1, 1, 1])
        self.holds(Powers([1, 1]) // Powers([2, 4, 8]), [Fraction(1, 2), Fraction(-1, 2)])
        self.holds(Powers([]) // Powers([3]), [])

    def test_quotient_by_zero(self):
        for first in (Powers([]), Powers([1, 2])):
            for second in (Powers([]), Powers([0]), Powers([0, 1])):
                self.refused(DivisionByZero, {}, operator.floordiv, first, second)

    def test_equal(self):
        self.truth(Powers([1, 2]) == Powers((Frac(1), Frac(4, 2))), True)
        self.truth(Powers([1, 2]) != Powers((Frac(1), Frac(4, 2))), False)
        self.truth(Powers([1, 2]) == Powers([1, 2, 0]), False)
        self.truth(Powers([1, 2]) == Powers([1, 3]), False)
        self.truth(Powers([]) == Powers([]), True)
        for other in ((1, 2), [1, 2], 1, None):
            self.truth(Powers([1, 2]) == other, False)
            self.truth(Powers([1, 2]) != other, True)

    def test_nothing_changes(self):
        powers = Powers([1, 2])
        same = powers
        powers += 1
        powers *= Powers([1, 1])
        self.holds(same, [1, 2])
        self.holds(powers, [2, 4])

    def test_hundred(self):
        one = [Fraction(k % 7 - 3, 2) for k in range(100)]
        self.holds(Powers(fracs(one)) * Powers(fracs(one)), product(one, one))
        found = Powers(fracs(one)) // Powers(fracs(one))
        self.holds(found, [1] + [0] * 99)


class Cuts(PowersLooks, unittest.TestCase):
    def test_delayed(self):
        powers = Powers([1, 2, 3])
        for ticks, wanted in [(0, [1, 2, 3]), (1, [0, 1, 2]), (2, [0, 0, 1]), (3, [0, 0, 0]), (100, [0, 0, 0])]:
            self.holds(powers.delayed(ticks), wanted)
        self.holds(Powers([]).delayed(5), [])
        for ticks in (-1, 101, 10 ** 30):
            self.refused(BadCount, {"count": ticks}, powers.delayed, ticks)
            self.refused(BadCount, {"count": ticks}, Powers([]).delayed, ticks)

    def test_cut(self):
        powers = Powers([1, 2, 3])
        for count in range(4):
            self.holds(powers.cut(count), [1, 2, 3][:count])
        self.holds(powers, [1, 2, 3])
        for count in (-1, 4, 10 ** 30, -3):
            self.refused(BadCount, {"count": count}, powers.cut, count)
        self.refused(BadCount, {"count": 1}, Powers([]).cut, 1)


if __name__ == "__main__":
    unittest.main()
