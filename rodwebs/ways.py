"""Walks along the rods of a web."""

from rodwebs.checks import check_ear, check_joint


def distances(web, joint):
    """The list of the distances of all joints from a joint; None where there is no walk."""
    check_joint(joint, len(web.joints))
    return [_lesser(even, odd) for even, odd in _least_walks(web, joint)]


def ear_distance(web, first, second):
    """The distance of two ears, or None if there is no walk."""
    check_ear(first, web.ears)
    check_ear(second, web.ears)
    return distances(web, _joint_of(web, first))[_joint_of(web, second)]


def pieces(web):
    """The list of the pieces of the web, ascending tuples of the joints that hang together by walks."""
    out = []
    for joint in range(len(web.joints)):
        far = distances(web, joint)
        piece = tuple([other for other in range(len(far)) if far[other] is not None])
        if piece[0] == joint:
            out.append(piece)
    return out


def odd_round(web, ear):
    """The least odd length of a walk from the joint of an ear back to it, or None if there is none."""
    check_ear(ear, web.ears)
    joint = _joint_of(web, ear)
    return _least_walks(web, joint)[joint][1]


def _joint_of(web, ear):
    return web.ear_list[ear][0]


def _least_walks(web, joint):
    """For each joint the least even and the least odd length of a walk from this joint to it, or None for each."""
    far = [[None, None] for _ in web.joints]
    far[joint][0] = 0
    along = [(start, end, length) for start, end, length, _, _ in web.rods]
    steps = along + [(end, start, length) for start, end, length in along]
    # A least walk comes to no joint twice with lengths that are both even or both odd.
    for _ in range(2 * len(web.joints)):
        for start, end, length in steps:
            for odd in (0, 1):
                if far[start][odd] is not None:
                    reached = far[start][odd] + length
                    far[end][reached & 1] = _lesser(far[end][reached & 1], reached)
    return far


def _lesser(one, other):
    """The lesser one of two lengths, each of which may be None."""
    if one is None:
        return other
    if other is None or one <= other:
        return one
    return other
