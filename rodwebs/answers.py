"""Answers and resistances, and webs hung on joints."""

from rodwebs.checks import check_count, check_joint, check_strength
from rodwebs.errors import BadCount, BadKind, NoAnswer
from rodwebs.powers import MOST, Powers, known_quotient
from rodwebs.runs import echo
from rodwebs.webs import Web

MOST_COPIES = 8


def answer(player, count):
    """The Powers of the first numbers of the answer of a player with one ear."""
    known = _known_echoes(player, count, -1)
    return known_quotient(player.strengths[0] * (1 - known), 1 + known)


def resistance(player, count):
    """The Powers of the first numbers of the resistance of a player with one ear."""
    known = _known_echoes(player, count, 1)
    return known_quotient(1 + known, player.strengths[0] * (1 - known))


def echo_of_answer(answer, strength):
    """The Powers of the echoes that belong to an answer at an ear of this strength."""
    check_strength(strength)
    if len(answer) > 0 and answer[0] == -strength:
        raise NoAnswer()
    return known_quotient(strength - answer, strength + answer)


def hang(web, joint, branch, *, copies=1):
    """The web with copies of a branch, a web with one ear, hung on a joint."""
    check_joint(joint, len(web.joints))
    if branch.ears != 1:
        raise BadCount(branch.ears)
    place = branch.ear_list[0][0]
    if branch.joints[place] != web.joints[joint]:
        raise BadKind(branch.joints[place])
    check_count(copies, 1, MOST_COPIES)
    joints = list(web.joints)
    rods = list(web.rods)
    for _ in range(copies):
        numbers = _numbers_of(branch, place, joint, len(joints))
        rods.extend([(numbers[rod[0]], numbers[rod[1]], *rod[2:]) for rod in branch.rods])
        joints.extend(branch.joints[:place] + branch.joints[place + 1:])
    return Web(joints, rods, web.ear_list)


def _known_echoes(player, count, wrong):
    """The first echoes of a player with one ear; NoAnswer() if the one at tick 0 is the wrong one."""
    if player.ears != 1:
        raise BadCount(player.ears)
    check_count(count, 0, MOST)
    found = echo(player, count or 1)
    if found[0] == wrong:
        raise NoAnswer()
    return Powers(found[:count])


def _numbers_of(branch, place, joint, first):
    """The new numbers of the joints of a branch: the one of its ear is the joint, the others count from the first."""
    others = [number - (1 if number > place else 0) for number in range(len(branch.joints))]
    return [joint if number == place else first + others[number] for number in range(len(branch.joints))]
