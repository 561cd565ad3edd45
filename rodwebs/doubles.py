"""Webs that are parted at joints, and webs joined with copies of themselves."""

from rodwebs.checks import check_joint
from rodwebs.errors import BadOrder
from rodwebs.webs import Web


def parted_at(web, joints):
    """The web in which these joints get the other kind and each of their arms gets a joint of its own."""
    _check_joints(web, joints)
    kinds = list(web.joints)
    places = {}
    for joint in joints:
        kinds[joint] = "stream" if web.joints[joint] == "level" else "level"
        for arm in web.arms(joint)[1:]:
            places[arm] = len(kinds)
            kinds.append(kinds[joint])
    rods = [
        (places.get(("start", rod), start), places.get(("end", rod), end), length, strength, twist)
        for rod, (start, end, length, strength, twist) in enumerate(web.rods)
    ]
    ears = [(places.get(("ear", ear), joint), strength) for ear, (joint, strength) in enumerate(web.ear_list)]
    return Web(kinds, rods, ears)


def doubled(web, joints):
    """Two copies of the web as one web, in which these joints belong to both copies."""
    _check_joints(web, joints)
    kinds = list(web.joints)
    copies = []
    for joint, kind in enumerate(web.joints):
        if joint in joints:
            copies.append(joint)
        else:
            copies.append(len(kinds))
            kinds.append(kind)
    rods = [(copies[start], copies[end], *rest) for start, end, *rest in web.rods]
    ears = [(copies[joint], strength) for joint, strength in web.ear_list]
    return Web(kinds, [*web.rods, *rods], [*web.ear_list, *ears])


def _check_joints(web, joints):
    for joint in joints:
        check_joint(joint, len(web.joints))
    if len(set(joints)) != len(joints):
        raise BadOrder()
