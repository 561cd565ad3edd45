"""The beginnings of power series."""

from rodwebs.checks import check_count
from rodwebs.errors import BadPlace, DivisionByZero
from rodwebs.fracs import Frac, dot, fracs_of, is_number, shared

MOST = 100


class Powers:
    """The first numbers of a power series; nothing is known of the later ones."""

    def __init__(self, numbers):
        check_count(len(numbers), 0, MOST)
        self.numbers = tuple(fracs_of(numbers))

    def __len__(self):
        return len(self.numbers)

    def __iter__(self):
        return iter(self.numbers)

    def __getitem__(self, at):
        if not 0 <= at < len(self.numbers):
            raise BadPlace(at)
        return self.numbers[at]

    def __add__(self, other):
        if not _is_term(other):
            return NotImplemented
        return Powers([x + y for x, y in zip(self.numbers, _known(other, len(self.numbers)))])

    def __radd__(self, other):
        if not is_number(other):
            return NotImplemented
        return self + other

    def __sub__(self, other):
        if not _is_term(other):
            return NotImplemented
        return Powers([x - y for x, y in zip(self.numbers, _known(other, len(self.numbers)))])

    def __rsub__(self, other):
        if not is_number(other):
            return NotImplemented
        return -self + other

    def __mul__(self, other):
        if is_number(other):
            return Powers([number * other for number in self.numbers])
        if not isinstance(other, Powers):
            return NotImplemented
        count = min(len(self.numbers), len(other.numbers))
        return Powers(convolved(self.numbers, other.numbers, count))

    def __rmul__(self, other):
        if not is_number(other):
            return NotImplemented
        return self * other

    def __floordiv__(self, other):
        if not isinstance(other, Powers):
            return NotImplemented
        return Powers(_quotient(self.numbers, other.numbers))

    def __neg__(self):
        return Powers([-number for number in self.numbers])

    def __eq__(self, other):
        if not isinstance(other, Powers):
            return NotImplemented
        return self.numbers == other.numbers

    def delayed(self, ticks):
        """The product with t ** ticks, of the same length."""
        check_count(ticks, 0, MOST)
        late = [Frac(0)] * ticks + list(self.numbers)
        return Powers(late[:len(self.numbers)])

    def cut(self, count):
        """The first numbers alone."""
        check_count(count, 0, len(self.numbers))
        return Powers(self.numbers[:count])


def known_quotient(first, second):
    """The quotient of two Powers of one length, which has no numbers if they have none."""
    # Powers divides by no series of which nothing is known.
    return first // second if len(first) > 0 else first


def convolved(first, second, count):
    """The first so many coefficients of the product of two lists of coefficients."""
    tops, den = shared(first)
    others, other_den = shared(second)
    return [Frac(_convolved_at(tops, others, k), den * other_den) for k in range(count)]


def _convolved_at(first, second, at):
    low = max(0, at + 1 - len(second))
    high = min(at + 1, len(first))
    return sum([first[k] * second[at - k] for k in range(low, high)])


def _is_term(value):
    return isinstance(value, Powers) or is_number(value)


def _known(value, count):
    """The known numbers of a Powers, or of a number that stands for itself and zeros behind it."""
    if isinstance(value, Powers):
        return value.numbers
    alone = [value] + [0] * count
    return alone[:count]


def _quotient(first, second):
    if not second or second[0] == 0:
        raise DivisionByZero()
    found = []
    for k in range(min(len(first), len(second))):
        told = dot(found, second[k:0:-1])
        found.append((first[k] - told).over(second[0]))
    return found
