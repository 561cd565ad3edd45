"""Exact fractions of integers."""

from math import gcd, lcm

from rodwebs.errors import BadCount, BadText, DivisionByZero

MOST_POWER = 64


class Frac:
    """A fraction of two integers in lowest terms, with its denominator above 0."""

    MOST_DIGITS = 60

    def __init__(self, num=0, den=1):
        if den == 0:
            raise DivisionByZero()
        common = gcd(num, den)
        if den < 0:
            common = -common
        self.num = num // common
        self.den = den // common

    def __add__(self, other):
        if not is_number(other):
            return NotImplemented
        if isinstance(other, int):
            return Frac(self.num + other * self.den, self.den)
        return Frac(self.num * other.den + other.num * self.den, self.den * other.den)

    def __radd__(self, other):
        if not is_number(other):
            return NotImplemented
        return self + other

    def __sub__(self, other):
        if not is_number(other):
            return NotImplemented
        if isinstance(other, int):
            return Frac(self.num - other * self.den, self.den)
        return Frac(self.num * other.den - other.num * self.den, self.den * other.den)

    def __rsub__(self, other):
        if not is_number(other):
            return NotImplemented
        return -self + other

    def __mul__(self, other):
        if not is_number(other):
            return NotImplemented
        if isinstance(other, int):
            return Frac(self.num * other, self.den)
        return Frac(self.num * other.num, self.den * other.den)

    def __rmul__(self, other):
        if not is_number(other):
            return NotImplemented
        return self * other

    def __floordiv__(self, other):
        if not is_number(other):
            return NotImplemented
        return _whole_quotient(self, Frac.of(other))

    def __rfloordiv__(self, other):
        if not is_number(other):
            return NotImplemented
        return _whole_quotient(Frac.of(other), self)

    def __mod__(self, other):
        if not is_number(other):
            return NotImplemented
        return self - other * _whole_quotient(self, Frac.of(other))

    def __rmod__(self, other):
        if not is_number(other):
            return NotImplemented
        return other - self * _whole_quotient(Frac.of(other), self)

    def __pow__(self, other):
        if not 0 <= other <= MOST_POWER:
            raise BadCount(other)
        num = den = 1
        for _ in range(other):
            num = num * self.num
            den = den * self.den
        return Frac(num, den)

    def __neg__(self):
        return Frac(-self.num, self.den)

    def __abs__(self):
        return Frac(abs(self.num), self.den)

    def __bool__(self):
        return bool(self.num != 0)

    def __eq__(self, other):
        if isinstance(other, int):
            return self.den == 1 and self.num == other
        if not isinstance(other, Frac):
            return NotImplemented
        return self.num == other.num and self.den == other.den

    def __lt__(self, other):
        if not is_number(other):
            return NotImplemented
        worth = Frac.of(other)
        return self.num * worth.den < worth.num * self.den

    def __le__(self, other):
        if not is_number(other):
            return NotImplemented
        worth = Frac.of(other)
        return self.num * worth.den <= worth.num * self.den

    def __gt__(self, other):
        if not is_number(other):
            return NotImplemented
        worth = Frac.of(other)
        return self.num * worth.den > worth.num * self.den

    def __ge__(self, other):
        if not is_number(other):
            return NotImplemented
        worth = Frac.of(other)
        return self.num * worth.den >= worth.num * self.den

    def __str__(self):
        if self.den == 1:
            return str(self.num)
        return f"{self.num}/{self.den}"

    def over(self, b):
        """The exact quotient by a number."""
        worth = Frac.of(b)
        return Frac(self.num * worth.den, self.den * worth.num)

    @staticmethod
    def of(value):
        """A number as a Frac."""
        if isinstance(value, Frac):
            return value
        return Frac(value)

    @staticmethod
    def read(text):
        """The Frac whose written form is the text."""
        above, slash, below = text.partition("/")
        digits = above[1:] if above.startswith("-") else above
        if not _readable(digits) or (slash and not _readable(below)):
            raise BadText(text)
        den = int(below) if slash else 1
        if den == 0:
            raise BadText(text)
        value = Frac(int(above), den)
        # Only the written form itself comes back from a value unchanged: so 2/4, 3/1, -0 and 01 are refused here.
        if str(value) != text:
            raise BadText(text)
        return value


def is_number(value):
    """Whether the value is an int or a Frac."""
    return isinstance(value, (int, Frac))


def fracs_of(numbers):
    """The numbers of a list as a new list of Fracs."""
    return [Frac.of(number) for number in numbers]


def shared(numbers):
    """The numerators of some Fracs above their least common denominator, and this denominator."""
    den = 1
    for number in numbers:
        den = lcm(den, number.den)
    return [number.num * (den // number.den) for number in numbers], den


def dot(first, second):
    """The sum of the products of the Fracs of two lists, place by place."""
    # One common denominator for each list saves a common divisor in each single product and sum.
    tops, den = shared(first)
    others, other_den = shared(second)
    return Frac(sum([one * other for one, other in zip(tops, others)]), den * other_den)


def _whole_quotient(first, second):
    if second.num == 0:
        raise DivisionByZero()
    return (first.num * second.den) // (first.den * second.num)


def _readable(digits):
    if not 1 <= len(digits) <= Frac.MOST_DIGITS:
        return False
    return all([digit in "0123456789" for digit in digits])
