"""Level webs folded by the even partition of their joints with the fewest classes."""

from rodwebs.errors import NotLevel
from rodwebs.fracs import Frac
from rodwebs.leads import Lead
from rodwebs.tables import Table
from rodwebs.webs import Web


def classes(web):
    """The tuple of the classes of the even partition with the fewest classes, tuples of joints."""
    firsts = _class_firsts(web)
    return tuple([
        tuple([joint for joint, first in enumerate(firsts) if first == start])
        for start in range(len(firsts)) if firsts[start] == start
    ])


def fold(web):
    """The lift: a Lead from the folded web to the web."""
    parts = classes(web)
    numbers = {joint: number for number, part in enumerate(parts) for joint in part}
    groups = {}
    for rod, (start, end, length, _, twist) in enumerate(web.rods):
        groups.setdefault((numbers[start], numbers[end], length, twist), []).append(rod)
    rods = [
        (start, end, length, _sum_of([web.rods[member][3] for member in group]), twist)
        for (start, end, length, twist), group in groups.items()
    ]
    ears = [(numbers[joint], strength) for joint, strength in web.ear_list]
    folded = Web(["level"] * len(parts), rods, ears)
    return Lead(folded, web, _lift_table(web, folded, list(groups.values())))


def _class_firsts(web):
    """For each joint the first joint of its class."""
    if not web.level:
        raise NotLevel()
    eared = [joint for joint, _ in web.ear_list]
    free = [joint for joint in range(len(web.joints)) if joint not in eared]
    firsts = [joint if joint in eared else free[0] for joint in range(len(web.joints))]
    # Each step parts only joints that every even partition parts, and it parts no more once the partition is even.
    for _ in web.joints:
        shares = [_shares(web, joint, firsts) for joint in range(len(web.joints))]
        firsts = [_first_like(joint, firsts, shares) for joint in range(len(web.joints))]
    return firsts


def _shares(web, joint, firsts):
    """The shares of a joint that are not 0, by class, length, twist and side."""
    total = _sum_of(web.arm_strengths[joint])
    out = {}
    for (side, index), strength in zip(web.arms(joint), web.arm_strengths[joint]):
        if side != "ear":
            start, end, length, _, twist = web.rods[index]
            place = (firsts[end if side == "start" else start], length, twist, side)
            out[place] = out.get(place, 0) + strength.over(total)
    return out


def _first_like(joint, firsts, shares):
    """The first joint of the same class with the same shares."""
    for other in range(joint):
        if firsts[other] == firsts[joint] and shares[other] == shares[joint]:
            return other
    return joint


def _lift_table(web, folded, groups):
    rows = [[0] * folded.cells for _ in range(web.cells)]
    for number, group in enumerate(groups):
        for rod in group:
            for cell in range(2 * web.rods[rod][2]):
                rows[web.first_cells[rod] + cell][folded.first_cells[number] + cell] = 1
    return Table(rows, width=folded.cells)


def _sum_of(strengths):
    return sum(strengths, start=Frac(0))
