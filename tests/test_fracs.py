"""Points 52, 53 and 54: Frac."""

import operator
import unittest
from fractions import Fraction

from rodwebs.errors import BadCount, BadText, DivisionByZero
from rodwebs.fracs import Frac
from tests.helpers import Looks, exact, frac, some_fraction, source

SIDES = [Fraction(-7, 3), Fraction(-2), Fraction(-1, 2), Fraction(0), Fraction(1, 60), Fraction(1), Fraction(5, 2),
         Fraction(10 ** 59 + 1, 10 ** 58 + 3), Fraction(12)]


def pairs():
    """Pairs of values with at least one Frac: both kinds for each integer value, on either side."""
    draw = source(52)
    values = SIDES + [some_fraction(draw, 40) for _ in range(8)]
    for first in values:
        for second in values:
            yield frac(first), frac(second), first, second
            if first.denominator == 1:
                yield int(first), frac(second), first, second
            if second.denominator == 1:
                yield frac(first), int(second), first, second


class Making(Looks, unittest.TestCase):
    def test_lowest_terms(self):
        for num, den, wanted in [(2, 4, (1, 2)), (-2, 4, (-1, 2)), (2, -4, (-1, 2)), (-6, -4, (3, 2)), (0, 5, (0, 1)),
                                 (0, -5, (0, 1)), (7, 1, (7, 1)), (-7, -1, (7, 1)), (12, 4, (3, 1))]:
            made = Frac(num, den)
            self.assertEqual((made.num, made.den), wanted)
            self.assertEqual((type(made.num), type(made.den)), (int, int))

    def test_left_out(self):
        self.assertEqual((Frac().num, Frac().den), (0, 1))
        self.assertEqual((Frac(-3).num, Frac(-3).den), (-3, 1))
        self.assertEqual((Frac(num=4, den=6).num, Frac(den=6, num=4).den), (2, 3))
        self.assertEqual((Frac(den=3).num, Frac(den=3).den), (0, 1))

    def test_long(self):
        top, bottom = 10 ** 60 - 1, 10 ** 60 - 7
        made = Frac(top * 6, -bottom * 6)
        wanted = Fraction(-top, bottom)
        self.assertEqual((made.num, made.den), (wanted.numerator, wanted.denominator))

    def test_no_zero_below(self):
        self.refused(DivisionByZero, {}, Frac, 1, 0)
        self.refused(DivisionByZero, {}, Frac, 0, 0)
        self.refused(DivisionByZero, {}, Frac, den=0)

    def test_most_digits(self):
        self.assertEqual(Frac.MOST_DIGITS, 60)
        self.assertEqual(Frac(1).MOST_DIGITS, 60)

    def test_of(self):
        self.one(Frac.of(5), 5)
        self.one(Frac.of(-10 ** 40), -10 ** 40)
        self.one(Frac.of(Frac(3, 6)), Fraction(1, 2))


class Signs(Looks, unittest.TestCase):
    def test_sum_difference_product(self):
        for first, second, one, other in pairs():
            self.one(first + second, one + other)
            self.one(first - second, one - other)
            self.one(first * second, one * other)

    def test_whole_quotient_and_rest(self):
        for first, second, one, other in pairs():
            if other == 0:
                self.refused(DivisionByZero, {}, operator.floordiv, first, second)
                self.refused(DivisionByZero, {}, operator.mod, first, second)
            else:
                self.assertIs(type(first // second), int)
                self.assertEqual(first // second, one // other)
                self.one(first % second, one - other * (one // other))

    def test_whole_quotient_goes_down(self):
        self.assertEqual(Frac(7, 2) // 1, 3)
        self.assertEqual(Frac(-7, 2) // 1, -4)
        self.assertEqual(Frac(-7, 2) // Frac(-1), 3)
        self.assertEqual(5 // Frac(-3, 2), -4)
        self.one(Frac(-7, 2) % 3, Fraction(5, 2))
        self.one(5 % Frac(-3, 2), -1)

    def test_comparisons(self):
        for first, second, one, other in pairs():
            for compare in (operator.eq, operator.ne, operator.lt, operator.le, operator.gt, operator.ge):
                self.truth(compare(first, second), compare(one, other))

    def test_not_equal_to_other_kinds(self):
        for other in ("1", None, [1], (1,), object()):
            self.truth(Frac(1) == other, False)
            self.truth(Frac(1) != other, True)
            self.truth(other == Frac(1), False)

    def test_exact_quotient(self):
        for first, second, one, other in pairs():
            if not isinstance(first, Frac):
                continue
            if other == 0:
                self.refused(DivisionByZero, {}, first.over, second)
            else:
                self.one(first.over(second), one / other)

    def test_negative_and_absolute(self):
        for value in SIDES:
            self.one(-frac(value), -value)
            self.one(abs(frac(value)), abs(value))

    def test_powers(self):
        for value in (Fraction(-2, 3), Fraction(0), Fraction(1), Fraction(7)):
            for k in (0, 1, 2, 3, 63, 64):
                self.one(frac(value) ** k, value ** k)
        for k in (-1, 65, -10 ** 30, 10 ** 30):
            self.refused(BadCount, {"count": k}, operator.pow, Frac(0), k)
        self.refused(BadCount, {"count": -1}, operator.pow, Frac(1, 2), -1)

    def test_truth(self):
        self.truth(bool(Frac(0)), False)
        self.truth(bool(Frac(0, -3)), False)
        self.truth(bool(Frac(-1, 3)), True)
        self.truth(bool(Frac(4)), True)

    def test_nothing_changes(self):
        first, second = Frac(1, 2), Frac(-2, 3)
        kept = first
        for change in (operator.add, operator.sub, operator.mul, operator.floordiv, operator.mod, Frac.over):
            change(first, second)
        first += second
        kept ** 3
        self.one(first, Fraction(-1, 6))
        self.one(kept, Fraction(1, 2))
        self.one(second, Fraction(-2, 3))

    def test_wrong_kinds_are_left_to_the_other_side(self):
        for change in (operator.add, operator.sub, operator.mul, operator.floordiv, operator.mod, operator.lt):
            with self.assertRaises(TypeError):
                change(Frac(1), "1")
            with self.assertRaises(TypeError):
                change([], Frac(1))


class Texts(Looks, unittest.TestCase):
    def test_written(self):
        for num, den, text in [(-3, 4, "-3/4"), (5, 1, "5"), (0, 9, "0"), (-5, 1, "-5"), (4, -6, "-2/3"),
                               (10, 4, "5/2"), (1, 10, "1/10")]:
            self.assertEqual(str(Frac(num, den)), text)
            self.assertIs(type(str(Frac(num, den))), str)

    def test_thousand_digits(self):
        big = 10 ** 999 + 7
        self.assertEqual(str(Frac(-big, big + 1)), f"-{big}/{big + 1}")

    def test_read_back(self):
        draw = source(54)
        for value in SIDES + [some_fraction(draw, 10 ** 12) for _ in range(20)]:
            self.one(Frac.read(str(frac(value))), value)
            self.assertEqual(str(frac(value)), str(value))

    def test_sixty_digits(self):
        most = 10 ** 60 - 1
        self.one(Frac.read(f"-{most}/{most - 1}"), Fraction(-most, most - 1))
        self.one(Frac.read(f"{most}"), most)
        self.one(Frac.read(f"1/{most}"), Fraction(1, most))
        for text in (f"{most + 1}", f"-{most + 1}", f"1/{most + 1}", f"{most + 2}/{most}", "9" * 2000,
                     "1/" + "9" * 1998, f"0{most}"):
            self.refused(BadText, {"text": text}, Frac.read, text)

    def test_other_texts(self):
        for text in ("", "2/4", "3/1", "-0", "+1", "01", "1/0", "1/-2", " 1", "1 ", "1 /2", "1/ 2", "1/2 ", "-", "/",
                     "1/", "/2", "-/2", "--1", "1//2", "1/2/3", "0/1", "0/2", "-0/3", "00", "-01", "1/02", "1_0",
                     "1.5", "1e3", "0x1", "one", "1\n", "\n1", "- 1", "1/+2", "-1/-2", "1/1", "-4/2", "1,0", "0/0",
                     "1/00", "~", "a/b", "(1)", "1-", "1/2-"):
            self.refused(BadText, {"text": text}, Frac.read, text)

    def test_digits_are_plain(self):
        # Digits of other scripts are no digits of a written form.
        for text in ("\u0661", "1/\u0662", "\u00b2"):
            self.refused(BadText, {"text": text}, Frac.read, text)


class Kept(Looks, unittest.TestCase):
    def test_values_from_the_program_may_be_of_any_size(self):
        value = Frac(3, 7) ** 64
        value = value * value * value
        self.assertEqual(exact(value), Fraction(3, 7) ** 192)


if __name__ == "__main__":
    unittest.main()
