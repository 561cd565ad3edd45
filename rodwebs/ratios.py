"""Quotients of polynomials."""

from rodwebs.errors import DivisionByZero
from rodwebs.fracs import Frac, is_number
from rodwebs.polys import Poly
from rodwebs.powers import known_quotient


class Ratio:
    """A quotient of two polynomials in lowest terms, with the constant 1 in its bottom."""

    def __init__(self, top, bottom):
        if bottom.degree < 0:
            raise DivisionByZero()
        common = Poly.common(top, bottom)
        below = bottom // common
        constant = below.coefficients[0]
        if constant == 0:
            raise DivisionByZero()
        scale = Frac(1).over(constant)
        self.top = top // common * scale
        self.bottom = below * scale

    def __add__(self, other):
        if not _is_term(other):
            return NotImplemented
        worth = _ratio_of(other)
        mine = self.top * worth.bottom
        theirs = self.bottom * worth.top
        return Ratio(mine + theirs, self.bottom * worth.bottom)

    def __radd__(self, other):
        if not is_number(other):
            return NotImplemented
        return self + other

    def __sub__(self, other):
        if not _is_term(other):
            return NotImplemented
        worth = _ratio_of(other)
        mine = self.top * worth.bottom
        theirs = self.bottom * worth.top
        return Ratio(mine - theirs, self.bottom * worth.bottom)

    def __rsub__(self, other):
        if not is_number(other):
            return NotImplemented
        return -self + other

    def __mul__(self, other):
        if not _is_term(other):
            return NotImplemented
        worth = _ratio_of(other)
        top = self.top * worth.top
        return Ratio(top, self.bottom * worth.bottom)

    def __rmul__(self, other):
        if not is_number(other):
            return NotImplemented
        return self * other

    def __neg__(self):
        return Ratio(-self.top, self.bottom)

    def __eq__(self, other):
        if not isinstance(other, Ratio):
            return NotImplemented
        return self.top == other.top and self.bottom == other.bottom

    def __call__(self, x):
        return self.top(x).over(self.bottom(x))

    def over(self, b):
        """The quotient by another Ratio."""
        if b.top.degree < 0:
            raise DivisionByZero()
        top = self.top * b.bottom
        return Ratio(top, self.bottom * b.top)

    def powers(self, count):
        """The first numbers of the power series."""
        return known_quotient(self.top.powers(count), self.bottom.powers(count))


def _ratio_of(value):
    if isinstance(value, Ratio):
        return value
    return Ratio(Poly([value]), Poly([1]))


def _is_term(value):
    return isinstance(value, Ratio) or is_number(value)
