"""Moves that nobody hears: each returns a Lead from a web to the new one."""

from rodwebs.carrying import carried, rod_numbers, sums, times, without
from rodwebs.checks import check_joint, check_order, check_rod
from rodwebs.errors import BadLength, NoMerge, NoTwin
from rodwebs.webs import Web


def turn(web, rod):
    """Start and end of a rod are exchanged."""
    check_rod(rod, len(web.rods))
    start, end, *rest = web.rods[rod]
    rods = list(web.rods)
    rods[rod] = (end, start, *rest)
    numbers = rod_numbers(web)
    numbers[rod] = numbers[rod][::-1]
    return carried(web, Web(web.joints, rods, web.ear_list), numbers)


def renumber(web, order):
    """The joints get other numbers: joint i of the new web is joint order[i] of the old one."""
    check_order(order, len(web.joints))
    places = {joint: place for place, joint in enumerate(order)}
    rods = [(places[start], places[end], *rest) for start, end, *rest in web.rods]
    ears = [(places[joint], strength) for joint, strength in web.ear_list]
    return carried(web, Web([web.joints[joint] for joint in order], rods, ears), rod_numbers(web))


def split(web, rod, at):
    """A rod becomes two rods with a new level joint between them."""
    check_rod(rod, len(web.rods))
    start, end, length, strength, twist = web.rods[rod]
    if not 1 <= at <= length - 1:
        raise BadLength(at)
    middle = len(web.joints)
    rods = [*web.rods, (middle, end, length - at, strength)]
    rods[rod] = (start, middle, at, strength, twist)
    new = Web([*web.joints, "level"], rods, web.ear_list)
    numbers = rod_numbers(web)
    forth, backs = numbers[rod]
    numbers[rod] = (forth[:at], backs[length - at:])
    # The twist stays with the first rod: what is behind it already has passed it.
    numbers.append((times(twist, forth[at:]), backs[:length - at]))
    return carried(web, new, numbers)


def merge(web, joint):
    """Two rods of equal strengths that meet at a level joint without other arms become one rod."""
    check_joint(joint, len(web.joints))
    if not _can_merge(web, joint):
        raise NoMerge(joint)
    (side, rod), (other_side, gone) = web.arms(joint)
    start, end, length, strength, twist = web.rods[rod]
    far_start, far_end, far_length, _, far_twist = web.rods[gone]
    numbers = rod_numbers(web)
    forth, backs = numbers[rod]
    far = far_end if other_side == "start" else far_start
    away, toward = numbers[gone] if other_side == "start" else numbers[gone][::-1]
    # What has passed the first rod of its way gets the twist of this rod.
    if side == "end":
        ends = (start, far)
        numbers[rod] = (forth + times(twist, away), toward + times(far_twist, backs))
    else:
        ends = (far, end)
        numbers[rod] = (toward + times(far_twist, forth), backs + times(twist, away))
    rods = list(web.rods)
    rods[rod] = (*ends, length + far_length, strength, twist * far_twist)
    new = _without_joint(web, joint, without(rods, gone))
    return carried(web, new, without(numbers, gone))


def twin(web, first, second):
    """Two rods that run side by side become one."""
    check_rod(first, len(web.rods))
    check_rod(second, len(web.rods))
    if not _can_twin(web, first, second):
        raise NoTwin(first, second)
    kept = min(int(first), int(second))
    gone = max(int(first), int(second))
    start, end, length, strength, twist = web.rods[kept]
    total = strength + web.rods[gone][3]
    numbers = rod_numbers(web)
    beside = numbers[gone] if web.rods[gone][0] == start else numbers[gone][::-1]
    forth, backs = [
        sums(times(strength.over(total), mine), times(web.rods[gone][3].over(total), theirs))
        for mine, theirs in zip(numbers[kept], beside)
    ]
    numbers[kept] = (forth, backs)
    rods = list(web.rods)
    rods[kept] = (start, end, length, total, twist)
    return carried(web, Web(web.joints, without(rods, gone), web.ear_list), without(numbers, gone))


def _can_merge(web, joint):
    arms = web.arms(joint)
    if web.joints[joint] != "level" or len(arms) != 2:
        return False
    (side, rod), (other_side, other) = arms
    if "ear" in (side, other_side) or rod == other:
        return False
    return web.rods[rod][3] == web.rods[other][3]


def _without_joint(web, joint, rods):
    """The web with these rods and without a joint that has no ears."""
    places = [place - (1 if place > joint else 0) for place in range(len(web.joints))]
    kept = [(places[start], places[end], *rest) for start, end, *rest in rods]
    return Web(without(web.joints, joint), kept, [(places[ear], strength) for ear, strength in web.ear_list])


def _can_twin(web, first, second):
    start, end, length, _, twist = web.rods[first]
    other_start, other_end, other_length, _, other_twist = web.rods[second]
    if first == second or (length, twist) != (other_length, other_twist):
        return False
    if (other_start, other_end) not in ((start, end), (end, start)):
        return False
    return web.joints[start] == "level" and web.joints[end] == "level"
