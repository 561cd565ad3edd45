"""Points 100 and 101, with point 30: answer, resistance, echo_of_answer, hang."""

import unittest
from fractions import Fraction

from rodwebs.answers import answer, echo_of_answer, hang, resistance
from rodwebs.cores import Core
from rodwebs.errors import BadCount, BadKind, BadStrength, NoAnswer, NoJoint, TooLarge
from rodwebs.fracs import Frac
from rodwebs.piles import Pile
from rodwebs.powers import Powers
from rodwebs.runs import echo, echoes
from rodwebs.shapes import dual, re_eared, scaled
from rodwebs.webs import Web
from tests.helpers import Looks, frac, source
from tests.players import TOLD, web_of
from tests.told import some_told, some_strength, told_webs

HALF = Frac(1, 2)
OPEN = Web(["level"], [], [(0, 3)])
SHUT = Web(["stream"], [], [(0, 3)])


def one_eared(draw, count):
    for told in told_webs(draw, count):
        if len(told.ears) == 1:
            yield told


def told_quotient(first, second):
    """The quotient of two power series, lists of Fractions."""
    found = []
    for k, number in enumerate(first):
        found.append((number - sum(found[j] * second[k - j] for j in range(k))) / second[0])
    return found


class Answers(Looks, unittest.TestCase):
    def test_answers(self):
        draw = source(1000)
        some = 0
        for told in one_eared(draw, 40):
            web, strength = web_of(told), told.ears[0][1]
            numbers = [table[0][0] for table in told.echoes(9)]
            less, more = [-x for x in numbers], list(numbers)
            less[0], more[0] = less[0] + 1, more[0] + 1
            some += bool(less[0] and more[0])
            for call, top, bottom in ((answer, [strength * x for x in less], more),
                                      (resistance, more, [strength * x for x in less])):
                if bottom[0] == 0:
                    self.refused(NoAnswer, {}, call, web, 9)
                else:
                    given = call(web, 9)
                    self.assertIs(type(given), Powers)
                    self.same(list(given), told_quotient(top, bottom))
                    self.assertEqual(len(call(web, 0)), 0)
        self.assertGreater(some, 3)

    def test_all_kinds_of_players(self):
        pile = Pile([HALF, Frac(-1, 3)], strength=2)
        for player in (Core.of(pile), pile.as_web()):
            self.assertEqual(answer(player, 1), answer(pile, 1))
        self.assertEqual(answer(Core.of(pile), 12), answer(pile, 12))
        self.same(list(answer(pile, 1)), [Fraction(2, 3)])
        self.same(list(resistance(pile, 1)), [Fraction(3, 2)])

    def test_strength_of_the_ear_is_free(self):
        draw = source(1001)
        for told in one_eared(draw, 40):
            web = web_of(told)
            other = re_eared(web, 0, frac(some_strength(draw)))
            if told.joint_arms(told.ears[0][0]) != [("ear", 0)]:
                self.assertEqual(answer(web, 8), answer(other, 8))
                self.assertEqual(resistance(web, 8) * 3, 3 * resistance(other, 8))

    def test_dual(self):
        draw = source(1002)
        for told in one_eared(draw, 20):
            web = web_of(told)
            if told.joint_arms(told.ears[0][0]) != [("ear", 0)]:
                self.assertEqual(answer(dual(web), 8), resistance(web, 8))
                self.assertEqual(resistance(dual(web), 8), answer(web, 8))

    def test_counts(self):
        web = Web(["level", "level"], [(0, 1, 1, 2)], [(0, 1)])
        for call in (answer, resistance):
            self.assertEqual(call(web, 0), Powers([]))
            self.assertEqual(len(call(web, 100)), 100)
            for count in (-1, 101, 10 ** 30):
                self.refused(BadCount, {"count": count}, call, web, count)
                self.refused(BadCount, {"count": count}, call, OPEN, count)
            for player in (web_of(TOLD), Web()):
                self.refused(BadCount, {"count": player.ears}, call, player, -1)
        self.same(list(answer(web, 3)), [2, 0, -4])

    def test_no_answer(self):
        for count in (0, 1, 100):
            self.refused(NoAnswer, {}, answer, SHUT, count)
            self.refused(NoAnswer, {}, resistance, OPEN, count)
            self.assertEqual(list(answer(OPEN, count)), [0] * count)
            self.assertEqual(list(resistance(SHUT, count)), [0] * count)
        self.refused(NoAnswer, {}, answer, Pile([], end=-1), 0)
        self.refused(NoAnswer, {}, resistance, Pile([]), 0)
        near = Frac(10 ** 59 - 1, 10 ** 59)
        self.one(answer(Pile([-near]), 1)[0], 2 * 10 ** 59 - 1)
        self.one(resistance(Pile([near]), 1)[0], 2 * 10 ** 59 - 1)

    def test_sums(self):
        """Rods side by side: answers add up at a level joint, resistances at a stream joint."""
        draw = source(1003)
        for kind, call in (("level", answer), ("stream", resistance)):
            for _ in range(4):
                one, other = [Web([kind, draw.choice(["level", "stream"])],
                                  [(0, 1, draw.randint(1, 3), frac(some_strength(draw)), draw.choice([1, -1]))],
                                  [(0, frac(some_strength(draw)))]) for _ in range(2)]
                self.assertEqual(call(hang(one, 0, other), 9), call(one, 9) + call(other, 9))


class EchoesOfAnswers(Looks, unittest.TestCase):
    def test_back(self):
        draw = source(1004)
        for told in one_eared(draw, 30):
            web, strength = web_of(told), frac(some_strength(draw))
            if told.joint_arms(told.ears[0][0]) != [("ear", 0)]:
                for count in (0, 1, 8):
                    given = echo_of_answer(answer(web, count), strength)
                    self.assertIs(type(given), Powers)
                    self.assertEqual(list(given), echo(re_eared(web, 0, strength), count))

    def test_known(self):
        self.same(list(echo_of_answer(Powers([1, 0, 0]), 3)), [Fraction(1, 2), 0, 0])
        self.same(list(echo_of_answer(Powers([0, 1]), 1)), [1, -2])
        self.assertEqual(echo_of_answer(Powers([]), 1), Powers([]))
        self.assertEqual(len(echo_of_answer(Powers([1] * 100), HALF)), 100)

    def test_refused(self):
        for strength in (0, -1, Frac(-1, 2)):
            error = self.refused(BadStrength, {"strength": strength}, echo_of_answer, Powers([-strength]), strength)
            self.assertIs(error.strength, strength)
            self.refused(BadStrength, {"strength": strength}, echo_of_answer, Powers([]), strength)
        self.refused(NoAnswer, {}, echo_of_answer, Powers([-2, 5]), 2)
        self.refused(NoAnswer, {}, echo_of_answer, Powers([Frac(-1, 2)]), HALF)
        self.same(list(echo_of_answer(Powers([-2, 5]), 3)), [5, -30])


class Hanging(Looks, unittest.TestCase):
    WEB = Web(["level", "stream"], [(0, 1, 2, 3, -1)], [(1, 2), (0, 1)])
    BRANCH = Web(["level", "stream", "level"], [(1, 0, 1, 5), (2, 1, 1, HALF, -1), (1, 1, 1, 7)], [(1, 9)])

    def test_shape(self):
        made = hang(self.WEB, 1, self.BRANCH)
        self.assertEqual(made, Web(["level", "stream", "level", "level"],
                                   [(0, 1, 2, 3, -1), (1, 2, 1, 5), (3, 1, 1, HALF, -1), (1, 1, 1, 7)],
                                   [(1, 2), (0, 1)]))
        made = hang(self.WEB, 1, self.BRANCH, copies=2)
        self.assertEqual(made, Web(["level", "stream", "level", "level", "level", "level"],
                                   [(0, 1, 2, 3, -1), (1, 2, 1, 5), (3, 1, 1, HALF, -1), (1, 1, 1, 7),
                                    (1, 4, 1, 5), (5, 1, 1, HALF, -1), (1, 1, 1, 7)], [(1, 2), (0, 1)]))
        self.assertEqual(hang(self.WEB, 0, OPEN, copies=8), self.WEB)
        self.assertEqual(hang(self.WEB, 1, SHUT), self.WEB)
        first = Web(["level", "stream"], [(0, 1, 1, 4)], [(0, HALF)])
        last = Web(["stream", "level"], [(1, 0, 1, 4)], [(1, HALF)])
        wanted = Web(["level", "stream", "stream"], [(0, 1, 2, 3, -1), (0, 2, 1, 4)], [(1, 2), (0, 1)])
        self.assertEqual(hang(self.WEB, 0, first), wanted)
        turned = Web(["level", "stream", "stream"], [(0, 1, 2, 3, -1), (0, 2, 1, 4)], [(1, 2), (0, 1)])
        self.assertEqual(hang(self.WEB, 0, last), turned)

    def test_any(self):
        draw = source(1010)
        some = 0
        for _ in range(60):
            told = some_told(draw, draw.randint(1, 3), draw.randint(0, 2), 2, 2)
            branch = some_told(draw, draw.randint(1, 3), draw.randint(0, 2), 1, 2)
            joint, place = draw.randrange(len(told.joints)), branch.ears[0][0]
            if branch.joints[place] != told.joints[joint]:
                self.refused(BadKind, {"kind": branch.joints[place]}, hang, web_of(told), joint, web_of(branch))
                continue
            copies = draw.randint(1, 2)
            joints, rods = list(told.joints), list(told.rods)
            for _ in range(copies):
                numbers = {place: joint}
                for number, kind in enumerate(branch.joints):
                    if number != place:
                        numbers[number] = len(joints)
                        joints.append(kind)
                rods += [(numbers[rod[0]], numbers[rod[1]], *rod[2:]) for rod in branch.rods]
            ears = [(number, frac(z)) for number, z in told.ears]
            wanted = Web(joints, [(*rod[:3], frac(rod[3]), rod[4]) for rod in rods], ears)
            self.assertEqual(hang(web_of(told), joint, web_of(branch), copies=copies), wanted)
            some += 1
        self.assertGreater(some, 15)

    def test_copies_sound_like_one(self):
        for kind, factor in (("level", 3), ("stream", Frac(1, 3))):
            web = Web([kind, "level"], [(0, 1, 2, 3)], [(0, 2), (1, 1)])
            branch = Web(["level", kind], [(1, 0, 1, 5, -1)], [(1, 9)])
            one = hang(web, 0, scaled(branch, factor))
            self.assertEqual(echoes(hang(web, 0, branch, copies=3), 12), echoes(one, 12))
            self.assertNotEqual(echoes(hang(web, 0, branch), 12), echoes(one, 12))

    def test_refused(self):
        two = web_of(TOLD)
        for joint in (2, -1, 10 ** 30):
            self.refused(NoJoint, {"joint": joint}, hang, self.WEB, joint, two, copies=0)
        self.refused(BadCount, {"count": 2}, hang, self.WEB, 0, two, copies=0)
        self.refused(BadCount, {"count": 0}, hang, self.WEB, 0, Web(), copies=0)
        self.refused(BadKind, {"kind": "stream"}, hang, self.WEB, 0, SHUT, copies=0)
        self.refused(BadKind, {"kind": "level"}, hang, self.WEB, 1, OPEN, copies=9)
        for copies in (0, 9, -1, 10 ** 30):
            self.refused(BadCount, {"count": copies}, hang, self.WEB, 0, OPEN, copies=copies)

    def test_too_many(self):
        rod = Web(["level", "level"], [(0, 1, 1, 1)], [(0, 1)])
        loop = Web(["level"], [(0, 0, 1, 1)], [(0, 1)])
        long = Web(["level"], [(0, 0, 6, 1)], [(0, 1)])
        self.assertEqual(len(hang(OPEN, 0, rod, copies=7).joints), 8)
        self.refused(BadCount, {"count": 9}, hang, OPEN, 0, rod, copies=8)
        self.assertEqual(len(hang(OPEN, 0, loop, copies=8).rods), 8)
        self.refused(BadCount, {"count": 9}, hang, rod, 0, loop, copies=8)
        self.assertEqual(hang(OPEN, 0, long, copies=2).cells, 24)
        self.refused(TooLarge, {"size": 36}, hang, OPEN, 0, long, copies=3)
        fork = Web(["level"] * 3, [(0, 1, 6, 1), (0, 2, 6, 1)], [(0, 1)])
        self.refused(BadCount, {"count": 17}, hang, OPEN, 0, fork, copies=8)
        self.refused(BadCount, {"count": 10}, hang, Web(["level"], [(0, 0, 1, 1)] * 2), 0, long, copies=8)

    def test_nothing_changes(self):
        before = Web(self.WEB.joints, self.WEB.rods, self.WEB.ear_list)
        hang(self.WEB, 1, self.BRANCH)
        self.assertEqual(self.WEB, before)


if __name__ == "__main__":
    unittest.main()
