"""Looks at arguments that several modules share."""

from rodwebs.errors import (
    BadCount, BadKind, BadLength, BadOrder, BadSizes, BadStrength, BadTwist, Mismatch, NoEar, NoJoint, NoRod, TooLarge,
)

KINDS = ("level", "stream")
MOST_LENGTH = 12


def check_count(count, low, high):
    """BadCount(count) if the count is not from low to high."""
    if not low <= count <= high:
        raise BadCount(count)


def check_size(size, most):
    """TooLarge(size) if a size is more than the greatest one."""
    if size > most:
        raise TooLarge(size)


def check_length(numbers, wanted):
    """BadSizes(given, wanted) if a list does not have the length that fits."""
    if len(numbers) != wanted:
        raise BadSizes(len(numbers), wanted)


def check_lengths(lists, wanted):
    """BadSizes(given, wanted) for the first list of a list that does not have the length that fits."""
    for numbers in lists:
        check_length(numbers, wanted)


def check_squares(tables):
    """Mismatch() if tables are not all square and of one size."""
    for table in tables:
        if table.height != table.width or table.width != tables[0].width:
            raise Mismatch()


def check_agreeing(one, other):
    """Mismatch() if two players do not have the same ears with the same strengths."""
    if one.strengths != other.strengths:
        raise Mismatch()


def check_kind(kind):
    """BadKind(kind) if there is no such kind of joint."""
    if kind not in KINDS:
        raise BadKind(kind)


def check_strength(strength):
    """BadStrength(strength) if it is not above 0."""
    if strength <= 0:
        raise BadStrength(strength)


def check_rod_length(length):
    """BadLength(length) if no rod can have this length."""
    if not 1 <= length <= MOST_LENGTH:
        raise BadLength(length)


def check_twist(twist):
    """BadTwist(twist) if it is not 1 or -1."""
    if twist not in (1, -1):
        raise BadTwist(twist)


def check_joint(joint, count):
    """NoJoint(joint) if it is not one of so many joints."""
    if not 0 <= joint < count:
        raise NoJoint(joint)


def check_rod(rod, count):
    """NoRod(rod) if it is not one of so many rods."""
    if not 0 <= rod < count:
        raise NoRod(rod)


def check_ear(ear, count):
    """NoEar(ear) if it is not one of so many ears."""
    if not 0 <= ear < count:
        raise NoEar(ear)


def check_order(order, count):
    """BadOrder() if a list does not consist of the integers below count, each exactly once."""
    if sorted([int(number) for number in order]) != list(range(count)):
        raise BadOrder()
