"""Stubs that slide through a rod from its one end to its other end, which nobody hears."""

from rodwebs.carrying import carried, rod_numbers, sums, times
from rodwebs.checks import check_rod
from rodwebs.errors import NoSlide
from rodwebs.webs import Web


def slide(web, stub, rod):
    """A stub of level joints slides through a rod and becomes a stub of stream joints; a Lead to the new web."""
    near, tip, far = _places(web, stub, rod)
    if _kinds(web, (near, tip, far)) != ["level"] * 3 or len(web.arms(far)) != 2:
        raise NoSlide(stub, rod)
    small = web.rods[stub][3]
    large = web.rods[rod][3]
    total = small + large
    joints = _with_kind(web, (tip, far), "stream")
    rods = _exchanged_rods(web, stub, rod, (near, far), (large * total.over(small), total))
    # The near and the far joint must send the same numbers as before to their other arms, whatever arrives there, now
    # and in each later tick: only these numbers do so.
    twist = web.rods[rod][4]
    part = small.over(total)
    numbers = rod_numbers(web)
    stub_away, stub_back = _from_joint(web, stub, near, numbers[stub])
    away, back = _from_joint(web, rod, near, numbers[rod])
    numbers[stub] = _from_joint(web, stub, near, (
        sums(times(twist * part, stub_back), times(-part, back)),
        sums(times(twist * part, stub_away), times(-twist * part, away)),
    ))
    numbers[rod] = _from_joint(web, rod, near, (
        sums(times(part, stub_away), times(1 - part, away)),
        sums(times(-twist * part, stub_back), times(part - 1, back)),
    ))
    return carried(web, Web(joints, rods, web.ear_list), numbers)


def unslide(web, stub, rod):
    """What slide does is taken back; a Lead to the new web."""
    near, tip, far = _places(web, stub, rod)
    if _kinds(web, (near, tip, far)) != ["stream", "stream", "level"] or len(web.arms(near)) != 3:
        raise NoSlide(stub, rod)
    small = web.rods[stub][3]
    large = web.rods[rod][3]
    part = large.over(small + large)
    joints = _with_kind(web, (tip, near), "level")
    rods = _exchanged_rods(web, stub, rod, (near, far), (large * part, small * part))
    twist = -web.rods[rod][4]
    more = small.over(large)
    # The opposite of what slide makes of these numbers.
    numbers = rod_numbers(web)
    stub_away, stub_back = _from_joint(web, stub, near, numbers[stub])
    away, back = _from_joint(web, rod, near, numbers[rod])
    numbers[stub] = _from_joint(web, stub, near, (
        sums(back, times(twist * more, stub_back)),
        sums(times(-twist, away), times(twist * more, stub_away)),
    ))
    numbers[rod] = _from_joint(web, rod, near, (
        sums(times(-1, away), times(-1, stub_away)),
        sums(back, times(-twist, stub_back)),
    ))
    return carried(web, Web(joints, rods, web.ear_list), numbers)


def _places(web, stub, rod):
    """The joint of the stub at the rod, the joint at its other end, and the joint at the other end of the rod."""
    check_rod(stub, len(web.rods))
    check_rod(rod, len(web.rods))
    start, end, length, _, twist = web.rods[stub]
    rod_start, rod_end, rod_length, _, _ = web.rods[rod]
    if stub == rod or length != rod_length or twist != 1:
        raise NoSlide(stub, rod)
    for near, tip in ((start, end), (end, start)):
        for joint, far in ((rod_start, rod_end), (rod_end, rod_start)):
            if joint == near and far not in (near, tip) and len(web.arms(tip)) == 1:
                return near, tip, far
    raise NoSlide(stub, rod)


def _kinds(web, joints):
    return [web.joints[joint] for joint in joints]


def _with_kind(web, places, kind):
    """The kinds of the joints, with this kind at some places."""
    return [kind if joint in places else old for joint, old in enumerate(web.joints)]


def _exchanged_rods(web, stub, rod, joints, strengths):
    """The rods, where the stub goes from the first joint to the second one and the rod gets the opposite twist."""
    near, far = joints
    stub_strength, rod_strength = strengths
    rods = list(web.rods)
    start, end, length, _, twist = rods[stub]
    rods[stub] = (far if start == near else start, far if end == near else end, length, stub_strength, twist)
    start, end, length, _, twist = rods[rod]
    rods[rod] = (start, end, length, rod_strength, -twist)
    return rods


def _from_joint(web, rod, joint, numbers):
    """The pair (forth, backs) of a rod as the pair (away from this joint, back to it); also the other way round."""
    return numbers if web.rods[rod][0] == joint else numbers[::-1]
