"""Point 126, with points 46 and 78: earliest and first_change."""

import unittest

from rodwebs.cores import Core
from rodwebs.errors import BadCount, Mismatch, NoEar, NoJoint
from rodwebs.firsts import earliest, first_change
from rodwebs.fracs import Frac
from rodwebs.linked import Linked
from rodwebs.piles import Pile
from rodwebs.runs import echo
from rodwebs.shapes import re_eared, without_ear
from rodwebs.webs import Web
from tests.helpers import Looks, frac, some_strength, source
from tests.players import TOLD, some_players, web_of
from tests.told import some_told

WEB = web_of(TOLD)
HALF = Frac(1, 2)
# Joints 0 to 3 in a line, 4 and 5 apart from them.
LINE = Web(["level"] * 6, [(0, 1, 2, 1), (2, 1, 3, 2), (2, 3, 1, 5), (4, 5, 1, 1)], [(0, 1), (3, 1), (4, 2)])


def told_distance(web, one, other):
    """The least sum of the lengths of a walk, by trying all walks without a joint twice; None if there is none."""
    best = None
    todo = [(one, 0, {one})]
    while todo:
        joint, length, seen = todo.pop()
        if joint == other:
            best = length if best is None else min(best, length)
        for start, end, more, _, _ in web.rods:
            for there, beyond in ((start, end), (end, start)):
                if there == joint and beyond not in seen:
                    todo.append((beyond, length + more, seen | {beyond}))
    return best


class Earliest(Looks, unittest.TestCase):
    def test_any(self):
        draw = source(1260)
        seen = {True: 0, False: 0}
        for _ in range(40):
            web = web_of(some_told(draw, draw.randint(1, 6), draw.randint(0, 5), draw.randint(1, 3), 2))
            joints = [draw.randrange(len(web.joints)) for _ in range(draw.randint(1, 4))]
            for heard, (hearing, _) in enumerate(web.ear_list):
                for knocked, (knocking, _) in enumerate(web.ear_list):
                    given = earliest(web, tuple(joints), heard, knocked)
                    ways = [[told_distance(web, joint, place) for joint in joints] for place in (hearing, knocking)]
                    known = [[way for way in part if way is not None] for part in ways]
                    wanted = min(known[0]) + min(known[1]) if all(known) else None
                    self.assertEqual((given, type(given)), (wanted, type(wanted)))
                    seen[given is None] += 1
        self.assertGreater(min(seen.values()), 10)

    def test_known(self):
        for joints, heard, knocked, wanted in (
                ([0], 0, 0, 0), ([1], 0, 0, 4), ([2], 1, 0, 6), ([1], 0, 1, 6), ([0, 3], 0, 1, 0), ([0, 3], 1, 0, 0),
                ([0, 3], 0, 0, 0), ([3, 3], 0, 0, 12), ([1, 2], 0, 0, 4), ([1, 2], 1, 1, 2), ([1, 2], 0, 1, 3),
                ([4], 0, 0, None), ([4], 2, 0, None), ([4], 0, 2, None), ([0, 4], 2, 0, 0), ([5, 5, 1], 2, 0, 3),
                ([5], 2, 2, 2), ((2, 1, 2), 1, 1, 2)):
            given = earliest(LINE, joints, heard, knocked)
            self.assertEqual(given, wanted)
            self.assertIs(type(given), type(wanted))

    def test_refused(self):
        for joint in (6, -1, 10 ** 30):
            self.refused(NoJoint, {"joint": joint}, earliest, LINE, [0, joint, 99], 9, 9)
        self.refused(BadCount, {"count": 0}, earliest, LINE, [], 9, 9)
        self.refused(BadCount, {"count": 0}, earliest, Web(), (), 0, 0)
        for ear in (3, -1, 10 ** 30):
            self.refused(NoEar, {"ear": ear}, earliest, LINE, [0], ear, 99)
            self.refused(NoEar, {"ear": ear}, earliest, LINE, [0], 0, ear)


class FirstChange(Looks, unittest.TestCase):
    def test_any(self):
        draw = source(1261)
        players = [WEB, *some_players(draw, 4)]
        pairs = [(one, other) for k, one in enumerate(players) for other in players[k:]
                 if one.ears and one.strengths == other.strengths]
        for one in players:
            if isinstance(one, Web) and one.rods:
                for rod, (start, end, length, strength, twist) in enumerate(one.rods):
                    rods = list(one.rods)
                    rods[rod] = (start, end, length, strength * 3, twist)
                    pairs.append((one, Web(one.joints, rods, one.ear_list)))
        seen = {}
        for one, other in pairs:
            for heard in range(one.ears):
                for knocked in range(one.ears):
                    count = one.cells + other.cells + 3
                    numbers = zip(echo(one, count, heard=heard, knocked=knocked),
                                  echo(other, count, heard=heard, knocked=knocked))
                    wanted = next((tick for tick, (x, y) in enumerate(numbers) if x != y), None)
                    for within in (count, 200):
                        given = first_change(one, other, heard, knocked, within)
                        self.assertEqual((given, type(given)), (wanted, type(wanted)))
                    if wanted is not None:
                        self.assertIsNone(first_change(one, other, heard, knocked, wanted))
                        self.assertEqual(first_change(one, other, heard, knocked, wanted + 1), wanted)
                    seen[wanted] = seen.get(wanted, 0) + 1
        self.assertGreater(seen[None], 10)
        self.assertGreater(len(seen), 3)

    def test_late(self):
        for count in (0, 1, 24):
            pile = Pile([0] * count)
            for other in (pile.with_end(-1), Core.of(pile.with_end(-1)), Linked([pile.with_end(-1)], [])):
                self.assertIsNone(first_change(pile, other, 0, 0, count))
                self.assertEqual(first_change(pile, other, 0, 0, count + 1), count)
                self.assertEqual(first_change(other, pile, 0, 0, 200), count)
        # Only one entry may differ so late as both players have cells together.
        one = Core.of(Pile([0] * 24)).beside(Core.of(Pile([])))
        other = Core.of(Pile([0] * 24)).beside(Core.of(Pile([], end=-1)))
        self.assertIsNone(first_change(one, other, 0, 0, 200))
        self.assertEqual(first_change(one, other, 1, 1, 1), 0)

    def test_within(self):
        self.assertIsNone(first_change(Pile([]), Pile([], end=-1), 0, 0, 0))
        self.assertEqual(first_change(Pile([]), Pile([], end=-1), 0, 0, 1), 0)
        self.assertIsNone(first_change(WEB, WEB, 1, 0, 200))

    def test_refused(self):
        for other in (Web(), Pile([]), re_eared(WEB, 0, 5), without_ear(WEB, 0)):
            self.refused(Mismatch, {}, first_change, WEB, other, 9, 9, 999)
        for ear in (2, -1, 10 ** 30):
            self.refused(NoEar, {"ear": ear}, first_change, WEB, WEB, ear, 99, 999)
            self.refused(NoEar, {"ear": ear}, first_change, WEB, WEB, 0, ear, 999)
        self.refused(NoEar, {"ear": 0}, first_change, Web(), Web(), 0, 0, 0)
        for within in (-1, 201, 10 ** 30):
            self.refused(BadCount, {"count": within}, first_change, WEB, WEB, 0, 1, within)


class FirstEffects(Looks, unittest.TestCase):
    """Point 46: what is changed at some joints is not heard before the numbers have come there and back."""

    def not_earlier(self, web, other, joints):
        """How often the echoes change just at the earliest tick, and how often not."""
        out = []
        for heard in range(web.ears):
            for knocked in range(web.ears):
                least = earliest(web, joints, heard, knocked)
                found = first_change(web, other, heard, knocked, 200)
                if least is None:
                    self.assertIsNone(found)
                elif found is not None:
                    self.assertGreaterEqual(found, least)
                out.append(found is not None and found == least)
        return out

    def test_changes_at_some_joints(self):
        draw = source(460)
        just = 0
        for _ in range(60):
            told = some_told(draw, draw.randint(2, 6), draw.randint(1, 5), 2, 2)
            web = web_of(told)
            joints = draw.sample(range(len(web.joints)), draw.randint(1, 2))
            kinds, rods = list(web.joints), []
            for joint in joints:
                if draw.random() < 0.4:
                    kinds[joint] = "stream" if kinds[joint] == "level" else "level"
            for start, end, length, strength, twist in web.rods:
                way = draw.choice(["kept", "off", "strength", "twist"])
                if way == "kept" or start not in joints or end not in joints:
                    rods.append((start, end, length, strength, twist))
                elif way == "strength":
                    rods.append((start, end, length, strength * frac(some_strength(draw)), twist))
                elif way == "twist":
                    rods.append((start, end, length, strength, -twist))
            for _ in range(draw.randint(0, 2)):
                rods.append((draw.choice(joints), draw.choice(joints), draw.randint(1, 2), frac(some_strength(draw)),
                             draw.choice([1, -1])))
                kinds.append(draw.choice(["level", "stream"]))
                rods.append((draw.choice(joints), len(kinds) - 1, 1, frac(some_strength(draw)), draw.choice([1, -1])))
            if len(kinds) <= 8 and len(rods) <= 8 and sum(2 * rod[2] for rod in rods) <= 24:
                just += sum(self.not_earlier(web, Web(kinds, rods, web.ear_list), joints))
        self.assertGreater(just, 15)

    def test_a_rod_added_to_a_plain_web(self):
        draw = source(461)
        some = {True: 0, False: 0}
        for _ in range(25):
            told = some_told(draw, draw.randint(2, 5), draw.randint(0, 5), 2, 2)
            web = Web(["level"] * len(told.joints), [rod[:4] for rod in web_of(told).rods], web_of(told).ear_list)
            joint = draw.randrange(len(web.joints))
            rod = (joint, len(web.joints), draw.randint(1, 2), frac(some_strength(draw)))
            other = Web([*web.joints, "level"], [*web.rods, rod], web.ear_list)
            self.not_earlier(web, other, [joint])
            for heard in range(2):
                for knocked in range(2):
                    least = earliest(web, [joint], heard, knocked)
                    some[least is None] += 1
                    if least is not None:
                        self.assertEqual(first_change(web, other, heard, knocked, 200), least)
                        numbers = [echo(part, least + 1, heard=heard, knocked=knocked)[-1] for part in (web, other)]
                        self.assertLess(numbers[1], numbers[0])
        self.assertGreater(min(some.values()), 10)


if __name__ == "__main__":
    unittest.main()
