"""Webs joined by links, cut and closed."""

from rodwebs.carrying import without
from rodwebs.checks import check_count, check_ear, check_kind, check_rod, check_rod_length, check_strength, check_twist
from rodwebs.errors import BadCount, BadLink, Mismatch
from rodwebs.shapes import laid_out
from rodwebs.webs import Web

MOST_JOINED = 4
MOST_LINKS = 8


def linked_web(webs, links):
    """The web of several webs whose ears are tied by links."""
    told = told_links(webs, links)
    joints, rods, ears = laid_out(webs)
    for ear, other, length, twist in told:
        rods.append((ears[ear][0], ears[other][0], length, ears[ear][1], twist))
    return Web(joints, rods, [ears[ear] for ear in free_ears(len(ears), told)])


def cut(web, rod):
    """The web in which a rod is replaced by two ears."""
    check_rod(rod, len(web.rods))
    start, end, _, strength, _ = web.rods[rod]
    return Web(web.joints, without(web.rods, rod), [*web.ear_list, (start, strength), (end, strength)])


def closed(web, ear, kind, *, length=1):
    """The web in which an ear is replaced by a rod to a new joint."""
    check_ear(ear, web.ears)
    check_kind(kind)
    check_rod_length(length)
    joint, strength = web.ear_list[ear]
    rod = (joint, len(web.joints), length, strength)
    return Web([*web.joints, kind], [*web.rods, rod], without(web.ear_list, ear))


def behind(web, length, strength):
    """The web with one ear, which moves behind a further rod."""
    if web.ears != 1:
        raise BadCount(web.ears)
    check_rod_length(length)
    check_strength(strength)
    joint, size = web.ear_list[0]
    new = len(web.joints)
    return Web([*web.joints, "level"], [*web.rods, (new, joint, length, strength)], [(new, size)])


def told_links(players, links):
    """The links as tuples (ear, other, length, twist), if they can tie the ears of these players."""
    check_count(len(players), 1, MOST_JOINED)
    check_count(len(links), 0, MOST_LINKS)
    strengths = [strength for player in players for strength in player.strengths]
    told = []
    tied = []
    for index, link in enumerate(links):
        ear, other, length, twist = _with_twist(link)
        check_ear(ear, len(strengths))
        check_ear(other, len(strengths))
        if ear == other or ear in tied or other in tied:
            raise BadLink(index)
        check_rod_length(length)
        check_twist(twist)
        if strengths[ear] != strengths[other]:
            raise Mismatch()
        tied.extend([ear, other])
        told.append((ear, other, length, twist))
    return told


def free_ears(count, links):
    """The ears, of so many, that no link ties."""
    tied = [ear for link in links for ear in link[:2]]
    return [ear for ear in range(count) if ear not in tied]


def _with_twist(link):
    if len(link) == 3:
        return (*link, 1)
    return tuple(link)
