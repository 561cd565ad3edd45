"""Webs made of other webs."""

from rodwebs.checks import check_count, check_ear, check_order, check_strength
from rodwebs.fracs import Frac
from rodwebs.webs import Web, check_cells

MOST_TIMES = 12


def dual(web):
    """The web with all kinds exchanged, all strengths inverted and all twists negated."""
    joints = ["stream" if kind == "level" else "level" for kind in web.joints]
    rods = [
        (start, end, length, Frac(1).over(strength), -twist) for start, end, length, strength, twist in web.rods
    ]
    return Web(joints, rods, [(joint, Frac(1).over(strength)) for joint, strength in web.ear_list])


def stretched(web, times):
    """The web with every rod so many times as long."""
    check_count(times, 1, MOST_TIMES)
    check_cells(web.cells * times)
    rods = [(start, end, length * times, strength, twist) for start, end, length, strength, twist in web.rods]
    return Web(web.joints, rods, web.ear_list)


def scaled(web, factor):
    """The web with all strengths multiplied by a number."""
    check_strength(factor)
    rods = [(start, end, length, strength * factor, twist) for start, end, length, strength, twist in web.rods]
    return Web(web.joints, rods, [(joint, strength * factor) for joint, strength in web.ear_list])


def re_eared(web, ear, strength):
    """The web with another strength of an ear."""
    check_ear(ear, web.ears)
    ears = list(web.ear_list)
    ears[ear] = (ears[ear][0], strength)
    return Web(web.joints, web.rods, ears)


def with_ear(web, joint, strength):
    """The web with one more ear, behind all others."""
    return Web(web.joints, web.rods, [*web.ear_list, (joint, strength)])


def without_ear(web, ear):
    """The web without an ear."""
    check_ear(ear, web.ears)
    return Web(web.joints, web.rods, web.ear_list[:ear] + web.ear_list[ear + 1:])


def ears_ordered(web, order):
    """The web with its ears in another order."""
    check_order(order, web.ears)
    return Web(web.joints, web.rods, [web.ear_list[ear] for ear in order])


def side_by_side(*webs):
    """One web of several webs."""
    joints, rods, ears = laid_out(webs)
    # Web refuses what is too many, in the order joints, rods, cells, ears.
    return Web(joints, rods, ears)


def laid_out(webs):
    """The lists of the joints, rods and ears of several webs, numbered web by web."""
    joints = []
    rods = []
    ears = []
    for web in webs:
        first = len(joints)
        rods.extend([(first + rod[0], first + rod[1], *rod[2:]) for rod in web.rods])
        ears.extend([(first + joint, strength) for joint, strength in web.ear_list])
        joints.extend(web.joints)
    return joints, rods, ears
