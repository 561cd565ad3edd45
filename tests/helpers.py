"""What the tests share: exact values worked out with Python's own fractions, and looks at errors and kinds."""

import random
from fractions import Fraction

from rodwebs.fracs import Frac


def exact(value):
    """A number, or a list or tuple of numbers at any depth, in Python's own fractions."""
    if isinstance(value, Frac):
        return Fraction(value.num, value.den)
    if isinstance(value, (int, Fraction)):
        return Fraction(value)
    return [exact(part) for part in value]


def frac(value):
    """A Frac of an int, a Fraction or a text such as 3/4."""
    worth = Fraction(value)
    return Frac(worth.numerator, worth.denominator)


def fracs(values):
    return [frac(value) for value in values]


def some_fraction(source, most=9):
    return Fraction(source.randint(-most, most), source.randint(1, most))


def some_strength(source, most=9):
    return Fraction(source.randint(1, most), source.randint(1, most))


def source(seed):
    return random.Random(seed)


def value_of(form, numbers):
    """The value of a form (rows of Fractions) at a list."""
    return sum((x * row_value * y for x, row in zip(numbers, form) for row_value, y in zip(row, numbers)), Fraction(0))


def applied(rows, numbers):
    """Rows of Fractions, applied to a list."""
    return [sum((x * y for x, y in zip(row, numbers)), Fraction(0)) for row in rows]


def rank_of(rows):
    """The rank of rows of Fractions, by plain elimination."""
    work = [list(row) for row in rows]
    rank = 0
    for col in range(len(work[0]) if work else 0):
        at = next((k for k in range(rank, len(work)) if work[k][col] != 0), None)
        if at is None:
            continue
        work[rank], work[at] = work[at], work[rank]
        for k in range(rank + 1, len(work)):
            factor = work[k][col] / work[rank][col]
            work[k] = [x - factor * y for x, y in zip(work[k], work[rank])]
        rank += 1
    return rank


class Looks:
    """Assertions for test cases."""

    def refused(self, error, told, call, *arguments, **named):
        """The call raises just this error class, whose attributes hold what is told, in kind and value."""
        with self.assertRaises(error) as caught:
            call(*arguments, **named)
        self.assertIs(type(caught.exception), error)
        for name, wanted in told.items():
            given = getattr(caught.exception, name)
            self.assertEqual(given, wanted)
            if isinstance(wanted, int):
                self.assertIs(type(given), type(wanted))
        return caught.exception

    def all_fracs(self, values):
        """Each number in a list or tuple, at any depth, is a Frac."""
        for value in values:
            if isinstance(value, (list, tuple)):
                self.all_fracs(value)
            else:
                self.assertIs(type(value), Frac)

    def same(self, given, wanted):
        """A list (or tuple) of Fracs with these values."""
        self.all_fracs(given)
        self.assertEqual(exact(given), exact(wanted))

    def one(self, given, wanted):
        """A Frac of this value."""
        self.assertIs(type(given), Frac)
        self.assertEqual(exact(given), Fraction(wanted))

    def truth(self, given, wanted):
        self.assertIs(given, wanted)
