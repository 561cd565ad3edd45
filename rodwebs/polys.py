"""Polynomials."""

from rodwebs.checks import check_count
from rodwebs.errors import BadCount, DivisionByZero, TooLarge
from rodwebs.fracs import Frac, fracs_of, is_number
from rodwebs.powers import Powers, convolved
from rodwebs.rows import whole_row, without_common

MOST_DEGREE = 100


class Poly:
    """A polynomial: its coefficients, the constant first, without zeros at the end."""

    def __init__(self, coefficients):
        kept = _without_end_zeros(fracs_of(coefficients))
        check_count(len(kept), 0, MOST_DEGREE + 1)
        self.coefficients = tuple(kept)

    @property
    def degree(self):
        """One less than the number of coefficients."""
        return len(self.coefficients) - 1

    def __add__(self, other):
        if not _is_term(other):
            return NotImplemented
        return Poly([x + y for x, y in _side_by_side(self, poly_of(other))])

    def __radd__(self, other):
        if not is_number(other):
            return NotImplemented
        return self + other

    def __sub__(self, other):
        if not _is_term(other):
            return NotImplemented
        return Poly([x - y for x, y in _side_by_side(self, poly_of(other))])

    def __rsub__(self, other):
        if not is_number(other):
            return NotImplemented
        return -self + other

    def __mul__(self, other):
        if is_number(other):
            return Poly([number * other for number in self.coefficients])
        if not isinstance(other, Poly):
            return NotImplemented
        degree = self.degree + other.degree
        if degree > MOST_DEGREE:
            raise TooLarge(degree)
        return Poly(convolved(self.coefficients, other.coefficients, degree + 1))

    def __rmul__(self, other):
        if not is_number(other):
            return NotImplemented
        return self * other

    def __floordiv__(self, other):
        if not isinstance(other, Poly):
            return NotImplemented
        quotient, _ = _divided(self.coefficients, other.coefficients)
        return Poly(quotient)

    def __mod__(self, other):
        if not isinstance(other, Poly):
            return NotImplemented
        _, rest = _divided(self.coefficients, other.coefficients)
        return Poly(rest)

    def __neg__(self):
        return Poly([-number for number in self.coefficients])

    def __eq__(self, other):
        if not isinstance(other, Poly):
            return NotImplemented
        return self.coefficients == other.coefficients

    def __call__(self, x):
        worth = Frac(0)
        for number in self.coefficients[::-1]:
            worth = worth * x + number
        return worth

    def reversed_to(self, size):
        """The polynomial t ** size * poly(1 / t)."""
        if size < 0 or not self.degree <= size <= MOST_DEGREE:
            raise BadCount(size)
        return Poly(_filled(self.coefficients, size + 1)[::-1])

    def powers(self, count):
        """The first coefficients, with zeros behind them if need be."""
        check_count(count, 0, MOST_DEGREE)
        return Powers(_filled(self.coefficients, count))

    @staticmethod
    def common(a, b):
        """The greatest common divisor with the last coefficient 1; zero if both are zero."""
        first = whole_row(a.coefficients)
        second = whole_row(b.coefficients)
        while second:
            first, second = second, _whole_rest(first, second)
        return Poly([Frac(number, first[-1]) for number in first])


def poly_of(value):
    """A Poly, or a number as a Poly."""
    if isinstance(value, Poly):
        return value
    return Poly([value])


def _is_term(value):
    return isinstance(value, Poly) or is_number(value)


def _without_end_zeros(numbers):
    count = len(numbers)
    while count > 0 and numbers[count - 1] == 0:
        count = count - 1
    return numbers[:count]


def _filled(numbers, count):
    longer = list(numbers) + [Frac(0)] * count
    return longer[:count]


def _side_by_side(first, second):
    count = max(len(first.coefficients), len(second.coefficients))
    return list(zip(_filled(first.coefficients, count), _filled(second.coefficients, count)))


def _divided(first, second):
    """The coefficients of the quotient and of the remainder."""
    if not second:
        raise DivisionByZero()
    found = []
    rest = list(first)
    while len(rest) >= len(second):
        factor = rest[-1].over(second[-1])
        found.append(factor)
        shift = len(rest) - len(second)
        rest = rest[:shift] + [x - factor * y for x, y in zip(rest[shift:-1], second[:-1])]
    return found[::-1], rest


def _whole_rest(first, second):
    """The remainder times some integer, in integers without a common divisor."""
    rest = list(first)
    while len(rest) >= len(second):
        shift = len(rest) - len(second)
        ahead = [second[-1] * x for x in rest[:shift]]
        rest = ahead + [second[-1] * x - rest[-1] * y for x, y in zip(rest[shift:-1], second[:-1])]
    return _without_end_zeros(without_common(rest))
