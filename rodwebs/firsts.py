"""When a change of a web is heard first."""

from rodwebs.checks import check_agreeing, check_count, check_ear, check_joint
from rodwebs.errors import BadCount
from rodwebs.runs import echo
from rodwebs.ways import distances

MOST_WITHIN = 200


def earliest(web, joints, heard, knocked):
    """The least distance from the knocked ear to some of these joints plus the one from some to the heard ear."""
    for joint in joints:
        check_joint(joint, len(web.joints))
    if not joints:
        raise BadCount(0)
    check_ear(heard, web.ears)
    check_ear(knocked, web.ears)
    there = _least_distance(web, joints, knocked)
    back = _least_distance(web, joints, heard)
    if there is None or back is None:
        return None
    return there + back


def first_change(one, other, heard, knocked, within):
    """The least tick below this one at which an echo differs between two players that agree, or None."""
    check_agreeing(one, other)
    check_ear(heard, one.ears)
    check_ear(knocked, one.ears)
    check_count(within, 0, MOST_WITHIN)
    # The difference is an echo of both players side by side: it never comes later than they have cells.
    count = min(int(within), int(one.cells + other.cells + 1))
    first = echo(one, count, heard=heard, knocked=knocked)
    second = echo(other, count, heard=heard, knocked=knocked)
    for tick in range(count):
        if first[tick] != second[tick]:
            return tick
    return None


def _least_distance(web, joints, ear):
    """The least distance of some joints from an ear, or None if there is no walk."""
    far = distances(web, web.ear_list[ear][0])
    return min([int(far[joint]) for joint in joints if far[joint] is not None], default=None)
