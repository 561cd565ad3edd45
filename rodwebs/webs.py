"""Webs of joints, rods and ears."""

from rodwebs.checks import (
    check_count, check_joint, check_kind, check_length, check_rod, check_rod_length, check_size, check_strength,
    check_twist,
)
from rodwebs.fracs import Frac, dot, fracs_of
from rodwebs.joints import common, scatter
from rodwebs.players import Player


class Web(Player):
    """A web: a player that consists of joints, rods and ears."""

    MOST_JOINTS = 8
    MOST_RODS = 8
    MOST_EARS = 4
    MOST_CELLS = 24

    def __init__(self, joints=(), rods=(), ears=()):
        _check_joints(joints)
        told_rods = [rod_with_twist(rod) for rod in rods]
        _check_rods(told_rods, len(joints))
        _check_ears(ears, len(joints))
        self.joints = tuple(joints)
        self.rods = tuple([
            (start, end, length, Frac.of(strength), twist) for start, end, length, strength, twist in told_rods
        ])
        self.ear_list = tuple([(joint, Frac.of(strength)) for joint, strength in ears])
        Player.__init__(self, cell_count(self.rods), [strength for _, strength in self.ear_list])
        self.first_cells = tuple([cell_count(self.rods[:rod]) for rod in range(len(self.rods))])
        self.arm_lists = tuple([_arms_at(self, joint) for joint in range(len(self.joints))])
        self.arm_strengths = tuple([tuple([_arm_strength(self, arm) for arm in arms]) for arms in self.arm_lists])
        self.cell_strengths = _cell_strengths(self.rods)

    def __eq__(self, other):
        if not isinstance(other, Web):
            return NotImplemented
        return self.joints == other.joints and self.rods == other.rods and self.ear_list == other.ear_list

    @property
    def level(self):
        """Whether all joints are level joints."""
        return all([kind == "level" for kind in self.joints])

    @property
    def plain(self):
        """Whether all joints are level joints and no rod is twisted."""
        return self.level and all([twist == 1 for _, _, _, _, twist in self.rods])

    @classmethod
    def line(cls, strengths, *, ear=1, end="level"):
        """Rods of length 1, one behind another, with an ear at the first joint."""
        joints = ["level"] * len(strengths) + [end]
        rods = [(rod, rod + 1, 1, strength) for rod, strength in enumerate(strengths)]
        return cls(joints, rods, [(0, ear)])

    def tick(self, state, knocks):
        """The new state and the heard numbers of one tick."""
        arriving = self._arriving(state, knocks)
        leaving = {}
        for kind, arms, strengths in zip(self.joints, self.arm_lists, self.arm_strengths):
            numbers = scatter(kind, strengths, [arriving[arm] for arm in arms])
            for arm, number in zip(arms, numbers):
                leaving[arm] = number
        new = []
        for rod in range(len(self.rods)):
            new.append(leaving["start", rod])
            new.extend(self.forth(state, rod)[:-1])
            new.append(leaving["end", rod])
            new.extend(self.backs(state, rod)[:-1])
        return new, [leaving["ear", ear] for ear in range(self.ears)]

    def back(self, state, heard):
        """The old state and the knocks of the tick that leads to this state and makes these numbers heard."""
        # Flipped, a tick runs the other way (point 13).
        flipped, knocks = self.tick(self.flip(state), heard)
        return self.flip(flipped), knocks

    def product(self, first, second):
        """The product of two states."""
        check_length(first, self.cells)
        check_length(second, self.cells)
        weighted = [strength * number for strength, number in zip(self.cell_strengths, first)]
        return dot(weighted, fracs_of(second))

    def flip(self, state):
        """The state in which all numbers run the other way."""
        check_length(state, self.cells)
        out = []
        for rod, (_, _, _, _, twist) in enumerate(self.rods):
            out.extend([twist * number for number in self.backs(state, rod)[::-1]])
            out.extend([twist * number for number in self.forth(state, rod)[::-1]])
        return out

    def commons(self, state, knocks):
        """The common numbers of all joints in the tick from this state with these knocks."""
        arriving = self._arriving(state, knocks)
        return [
            common(kind, strengths, [arriving[arm] for arm in arms])
            for kind, arms, strengths in zip(self.joints, self.arm_lists, self.arm_strengths)
        ]

    def forth(self, state, rod):
        """The numbers in the forth cells of a rod."""
        check_length(state, self.cells)
        check_rod(rod, len(self.rods))
        first = self.first_cells[rod]
        return fracs_of(state[first:first + self.rods[rod][2]])

    def backs(self, state, rod):
        """The numbers in the back cells of a rod."""
        check_length(state, self.cells)
        check_rod(rod, len(self.rods))
        first = self.first_cells[rod] + self.rods[rod][2]
        return fracs_of(state[first:first + self.rods[rod][2]])

    def arms(self, joint):
        """The arms of a joint, in their order."""
        check_joint(joint, len(self.joints))
        return self.arm_lists[joint]

    def _arriving(self, state, knocks):
        """The number that arrives at each arm."""
        check_length(state, self.cells)
        check_length(knocks, self.ears)
        out = {}
        for rod, (_, _, _, _, twist) in enumerate(self.rods):
            out["end", rod] = twist * self.forth(state, rod)[-1]
            out["start", rod] = twist * self.backs(state, rod)[-1]
        for ear, number in enumerate(knocks):
            out["ear", ear] = Frac.of(number)
        return out


def rod_with_twist(rod):
    """A rod, as it is passed, as the tuple (start, end, length, strength, twist)."""
    if len(rod) == 4:
        return (*rod, 1)
    return tuple(rod)


def cell_count(rods):
    """The number of cells of some rods."""
    return sum([2 * length for _, _, length, _, _ in rods])


def check_cells(count):
    """TooLarge(cells) if no web has so many cells."""
    check_size(count, Web.MOST_CELLS)


def _check_joints(joints):
    check_count(len(joints), 0, Web.MOST_JOINTS)
    for kind in joints:
        check_kind(kind)


def _check_rods(rods, joint_count):
    check_count(len(rods), 0, Web.MOST_RODS)
    for start, end, length, strength, twist in rods:
        check_joint(start, joint_count)
        check_joint(end, joint_count)
        check_rod_length(length)
        check_strength(strength)
        check_twist(twist)
    check_cells(cell_count(rods))


def _check_ears(ears, joint_count):
    check_count(len(ears), 0, Web.MOST_EARS)
    for joint, strength in ears:
        check_joint(joint, joint_count)
        check_strength(strength)


def _cell_strengths(rods):
    out = []
    for _, _, length, strength, _ in rods:
        out.extend([strength] * (2 * length))
    return tuple(out)


def _arms_at(web, joint):
    out = []
    for rod, (start, end, _, _, _) in enumerate(web.rods):
        if start == joint:
            out.append(("start", rod))
        if end == joint:
            out.append(("end", rod))
    for ear, (place, _) in enumerate(web.ear_list):
        if place == joint:
            out.append(("ear", ear))
    return tuple(out)


def _arm_strength(web, arm):
    side, index = arm
    if side == "ear":
        return web.strengths[index]
    return web.rods[index][3]
