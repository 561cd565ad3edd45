"""How a joint scatters the numbers that arrive at its arms."""

from rodwebs.checks import check_kind, check_length, check_strength
from rodwebs.fracs import Frac, dot, fracs_of


def common(kind, strengths, arriving):
    """The common number of a joint."""
    _check_joint_arms(kind, strengths, arriving)
    return _common_number(kind, fracs_of(strengths), fracs_of(arriving))


def scatter(kind, strengths, arriving):
    """The numbers that leave at the arms of a joint, as a list."""
    _check_joint_arms(kind, strengths, arriving)
    sizes = fracs_of(strengths)
    numbers = fracs_of(arriving)
    middle = _common_number(kind, sizes, numbers)
    if kind == "level":
        return [middle - number for number in numbers]
    return [number - middle.over(size) for size, number in zip(sizes, numbers)]


def _check_joint_arms(kind, strengths, arriving):
    check_kind(kind)
    for strength in strengths:
        check_strength(strength)
    check_length(arriving, len(strengths))


def _common_number(kind, strengths, arriving):
    if not strengths:
        return Frac(0)
    if kind == "level":
        return (2 * dot(strengths, arriving)).over(_total(strengths))
    return (2 * _total(arriving)).over(_total([Frac(1).over(strength) for strength in strengths]))


def _total(numbers):
    return sum(numbers, start=Frac(0))
