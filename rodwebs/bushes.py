"""Bushes: joints with branches that lead to further bushes."""

from rodwebs.checks import check_count, check_rod_length, check_size, check_strength
from rodwebs.fracs import Frac
from rodwebs.peeling import pile_of
from rodwebs.powers import MOST, Powers, known_quotient
from rodwebs.webs import Web


class Bush:
    """The base class of LevelBush and StreamBush, which alone are made."""

    # The kind of the joint: each heir has its own.
    KIND = ""

    def __init__(self, *branches):
        for length, strength, _ in branches:
            check_rod_length(length)
            check_strength(strength)
        joint_count = 1 + sum([bush.joint_count for _, _, bush in branches])
        check_size(joint_count, Web.MOST_JOINTS)
        cell_count = sum([2 * length + bush.cell_count for length, _, bush in branches])
        check_size(cell_count, Web.MOST_CELLS)
        self.branches = tuple([(length, Frac.of(strength), bush) for length, strength, bush in branches])
        self.joint_count = joint_count
        self.cell_count = cell_count

    def __eq__(self, other):
        if not isinstance(other, Bush):
            return NotImplemented
        return self.KIND == other.KIND and self.branches == other.branches

    def as_pile(self, *, strength=1):
        """The pile that is alike to the web of the bush."""
        return pile_of(_web_of(self, strength))


class LevelBush(Bush):
    """A bush with a level joint."""

    KIND = "level"

    def as_web(self, *, strength=1):
        """The web of the bush."""
        return _web_of(self, strength)

    def echo(self, count, *, strength=1):
        """The list of the first so many echoes of the bush."""
        check_count(count, 0, MOST)
        check_strength(strength)
        total = _none(count)
        for around, less in _both_of_branches(self, count):
            total = total + known_quotient(around, less)
        return list(known_quotient(strength - total, strength + total))


class StreamBush(Bush):
    """A bush with a stream joint."""

    KIND = "stream"

    def as_web(self, *, strength=1):
        """The web of the bush."""
        return _web_of(self, strength)

    def echo(self, count, *, strength=1):
        """The list of the first so many echoes of the bush."""
        check_count(count, 0, MOST)
        check_strength(strength)
        total = _none(count)
        for around, less in _both_of_branches(self, count):
            total = total + known_quotient(less, around)
        return list(known_quotient(strength * total - 1, strength * total + 1))


def bushes_alike(one, other):
    """Whether the webs of two bushes, with ears of strength 1, are alike."""
    count = min(int(one.cell_count), int(other.cell_count)) + 1
    return one.echo(count) == other.echo(count)


def _web_of(bush, strength):
    check_strength(strength)
    joints, rods = _shape_of(bush)
    return Web(joints, rods, [(0, strength)])


def _shape_of(bush):
    """The joints and the rods of the web of a bush."""
    joints = [bush.KIND]
    rods = []
    for length, strength, further in bush.branches:
        first = len(joints)
        inner_joints, inner_rods = _shape_of(further)
        rods.append((0, first, length, strength))
        rods.extend([(first + start, first + end, far, size) for start, end, far, size in inner_rods])
        joints.extend(inner_joints)
    return joints, rods


def _none(count):
    return Powers([0] * count)


def _both_of_branches(bush, count):
    """For each branch two Powers: their quotient is its answer."""
    out = []
    for length, strength, further in bush.branches:
        late = Powers(further.echo(count, strength=strength)).delayed(2 * length)
        out.append((strength * (1 - late), 1 + late))
    return out
