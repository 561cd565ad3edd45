"""Points 111 and 112, with points 8 and 39: parted_at and doubled."""

import unittest
from fractions import Fraction

from rodwebs.doubles import doubled, parted_at
from rodwebs.errors import BadCount, BadOrder, NoJoint, TooLarge
from rodwebs.fracs import Frac
from rodwebs.webs import Web
from tests.helpers import Looks, source
from tests.players import web_of
from tests.told import ToldWeb, some_told, told_webs

HALF = Fraction(1, 2)
OTHER = {"level": "stream", "stream": "level"}
WEB = Web(["level", "stream", "level"],
          [(0, 1, 1, 2, -1), (1, 1, 2, 3), (2, 0, 1, Frac(1, 2)), (0, 0, 1, 5)], [(0, 7), (1, 1), (0, 2)])


def told_parted(told, joints):
    """The parted web, as point 111 tells it."""
    made = ToldWeb(told.joints, told.rods, told.ears)
    for joint in joints:
        made.joints[joint] = OTHER[told.joints[joint]]
        for side, number in told.joint_arms(joint)[1:]:
            new = len(made.joints)
            made.joints.append(made.joints[joint])
            if side == "ear":
                made.ears[number] = (new, *made.ears[number][1:])
            elif side == "start":
                made.rods[number] = (new, *made.rods[number][1:])
            else:
                made.rods[number] = (made.rods[number][0], new, *made.rods[number][2:])
    return made


def told_doubled(told, joints):
    """The doubled web, as points 39 and 112 tell it."""
    copies, kinds = {}, list(told.joints)
    for joint, kind in enumerate(told.joints):
        if joint in joints:
            copies[joint] = joint
        else:
            copies[joint] = len(kinds)
            kinds.append(kind)
    rods = told.rods + [(copies[start], copies[end], *rest) for start, end, *rest in told.rods]
    return ToldWeb(kinds, rods, told.ears + [(copies[joint], strength) for joint, strength in told.ears])


def some_joints(draw, told):
    return draw.sample(range(len(told.joints)), draw.randint(0, len(told.joints)))


class Parting(Looks, unittest.TestCase):
    def test_known(self):
        self.assertEqual(parted_at(WEB, [2]), Web(["level", "stream", "stream"], WEB.rods, WEB.ear_list))
        # The arms of joint 0: the start of rod 0, the end of rod 2, both sides of rod 3, both ears.
        self.assertEqual(parted_at(WEB, [0]), Web(
            ["stream", "stream", "level"] + ["stream"] * 5,
            [(0, 1, 1, 2, -1), (1, 1, 2, 3), (2, 3, 1, Frac(1, 2)), (4, 5, 1, 5)], [(6, 7), (1, 1), (7, 2)]))
        self.assertEqual(parted_at(WEB, [1, 2]), Web(
            ["level", "level", "stream"] + ["level"] * 3,
            [(0, 1, 1, 2, -1), (3, 4, 2, 3), (2, 0, 1, Frac(1, 2)), (0, 0, 1, 5)], [(0, 7), (5, 1), (0, 2)]))
        self.assertEqual(parted_at(WEB, ()), WEB)
        self.assertEqual(parted_at(Web(["level", "stream"]), [1, 0]), Web(["stream", "level"]))
        self.assertEqual(parted_at(Web(["stream"], [], [(0, 1), (0, 2)]), [0]),
                         Web(["level", "level"], [], [(0, 1), (1, 2)]))
        self.assertEqual(parted_at(Web(), []), Web())

    def test_order_of_the_list(self):
        web = Web(["level", "stream"], [(0, 1, 1, 1), (1, 0, 1, 1)])
        self.assertEqual(parted_at(web, [0, 1]),
                         Web(["stream", "level", "stream", "level"], [(0, 1, 1, 1), (3, 2, 1, 1)]))
        self.assertEqual(parted_at(web, [1, 0]),
                         Web(["stream", "level", "level", "stream"], [(0, 1, 1, 1), (2, 3, 1, 1)]))

    def test_any(self):
        draw = source(1110)
        some = 0
        for told in told_webs(draw, 40):
            joints = some_joints(draw, told)
            wanted = told_parted(told, joints)
            if len(wanted.joints) > 8:
                self.refused(BadCount, {"count": len(wanted.joints)}, parted_at, web_of(told), joints)
            else:
                made = parted_at(web_of(told), tuple(joints))
                self.assertIs(type(made), Web)
                self.assertEqual(made, web_of(wanted))
                some += bool(joints)
        self.assertGreater(some, 15)

    def test_refused(self):
        for joint in (3, -1, 10 ** 30):
            self.refused(NoJoint, {"joint": joint}, parted_at, WEB, [0, 0, joint, 99])
        self.refused(BadOrder, {}, parted_at, WEB, [1, 0, 1])
        self.refused(BadOrder, {}, parted_at, WEB, [0, 0])
        self.refused(BadCount, {"count": 11}, parted_at, WEB, [1, 0])
        star = Web(["level"] * 2, [(0, 1, 1, 1)] * 6)
        self.assertEqual(len(parted_at(star, [0]).joints), 7)
        self.refused(BadCount, {"count": 12}, parted_at, star, [0, 1])
        more = Web(["level"] * 3, [(0, 1, 1, 1)] * 6)
        self.assertEqual(len(parted_at(more, [0]).joints), 8)
        self.refused(BadCount, {"count": 9}, parted_at, Web(["level"] * 4, [(0, 1, 1, 1)] * 6), [0])
        self.refused(NoJoint, {"joint": 0}, parted_at, Web(), [0])


class Doubling(Looks, unittest.TestCase):
    def test_known(self):
        web = Web(["level", "stream", "level"], [(0, 1, 1, 2, -1), (2, 2, 1, 3)], [(0, 7), (1, 1)])
        self.assertEqual(doubled(web, [1]), Web(
            ["level", "stream", "level", "level", "level"],
            [(0, 1, 1, 2, -1), (2, 2, 1, 3), (3, 1, 1, 2, -1), (4, 4, 1, 3)], [(0, 7), (1, 1), (3, 7), (1, 1)]))
        self.assertEqual(doubled(web, [2, 0]), Web(
            ["level", "stream", "level", "stream"],
            [(0, 1, 1, 2, -1), (2, 2, 1, 3), (0, 3, 1, 2, -1), (2, 2, 1, 3)], [(0, 7), (1, 1), (0, 7), (3, 1)]))
        self.assertEqual(doubled(web, [0, 1, 2]).joints, web.joints)
        self.assertEqual(doubled(web, []).joints, web.joints * 2)
        self.assertEqual(doubled(Web(), []), Web())

    def test_echoes(self):
        """Half the sum and half the difference of the echoes of the free and of the tied half."""
        draw = source(1120)
        some = 0
        while some < 30:
            told = some_told(draw, draw.randint(1, 4), draw.randint(0, 3), draw.randint(1, 2), 2)
            joints = some_joints(draw, told)
            whole, tied = told_doubled(told, joints), told_parted(told, joints)
            if len(whole.joints) > 8:
                continue
            made = doubled(web_of(told), joints)
            self.assertEqual(made, web_of(whole))
            count, ears = 5, len(told.ears)
            pairs = zip(whole.echoes(count), told.echoes(count), tied.echoes(count))
            for table, free, bound in pairs:
                for a in range(2 * ears):
                    for b in range(2 * ears):
                        sign = 1 if (a < ears) == (b < ears) else -1
                        wanted = (free[a % ears][b % ears] + sign * bound[a % ears][b % ears]) / 2
                        self.assertEqual(table[a][b], wanted)
            some += 1

    def test_refused(self):
        for joint in (3, -1, 10 ** 30):
            self.refused(NoJoint, {"joint": joint}, doubled, WEB, [1, 1, joint, -7])
        self.refused(BadOrder, {}, doubled, WEB, [2, 1, 2])
        five = Web(["level"] * 5, [(0, 0, 1, 1)] * 5, [(0, 1)] * 3)
        self.refused(BadCount, {"count": 9}, doubled, five, [0])
        self.refused(BadCount, {"count": 10}, doubled, five, [0, 1])
        self.refused(TooLarge, {"size": 28}, doubled, Web(["level"], [(0, 0, 7, 1)], [(0, 1)] * 3), [0])
        self.refused(BadCount, {"count": 6}, doubled, Web(["level"], [(0, 0, 6, 1)], [(0, 1)] * 3), [0])
        self.refused(BadCount, {"count": 10}, doubled, Web(["level"] * 5), [])
        fitting = Web(["level"] * 5, [(0, 1, 3, 1)] + [(1, 2, 1, 1)] * 3, [(0, 1), (4, 2)])
        made = doubled(fitting, [3, 4])
        self.assertEqual((len(made.joints), len(made.rods), made.cells, made.ears), (8, 8, 24, 4))

    def test_nothing_changes(self):
        joints = [0, 2]
        for call in (parted_at, doubled):
            web = Web(["level", "stream", "level"], [(0, 1, 1, 2, -1)], [(0, 7), (1, 1)])
            call(web, joints)
            self.assertEqual(joints, [0, 2])
            self.assertEqual(web, Web(["level", "stream", "level"], [(0, 1, 1, 2, -1)], [(0, 7), (1, 1)]))


if __name__ == "__main__":
    unittest.main()
