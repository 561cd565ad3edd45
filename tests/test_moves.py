"""Points 114, 115 and 116, with points 8, 9 and 19: turn, renumber, split, merge, twin."""

import unittest
from fractions import Fraction

from rodwebs.alike import alike
from rodwebs.errors import BadCount, BadLength, BadOrder, NoJoint, NoMerge, NoRod, NoTwin
from rodwebs.fracs import Frac
from rodwebs.heardparts import silent
from rodwebs.leads import Lead
from rodwebs.moves import merge, renumber, split, turn, twin
from rodwebs.spaces import Space
from rodwebs.tables import Table
from rodwebs.webs import Web
from tests.helpers import Looks, exact, frac, fracs, some_strength, source
from tests.players import TOLD, Leads, units, web_of
from tests.told import ToldWeb, some_state, some_told, told_webs

WEB = web_of(TOLD)
HALF = Frac(1, 2)


class Moves(Leads, Looks, unittest.TestCase):
    def moved(self, draw, lead, told, wanted, carry):
        """A lead from the one told web to the other one; carry makes of a state, a list, what the lead makes of it."""
        web = web_of(told)
        self.assertIs(type(lead), Lead)
        self.assertEqual(lead.first, web)
        self.assertEqual(lead.second, web_of(wanted))
        state, knocks = some_state(draw, told.cells), some_state(draw, len(told.ears))
        carried = carry(state)
        self.same(lead(fracs(state)), carried)
        # Both webs are played by the test itself.
        new, heard = told.tick(state, knocks)
        self.assertEqual(wanted.tick(carried, knocks), (carry(new), heard))
        self.assertEqual(lead.table.height, wanted.cells)
        self.leads(draw, lead, lead.first, lead.second)

    def joined(self, pairs):
        """The state of all pairs (forth, backs)."""
        return [x for forth, backs in pairs for x in forth + backs]


class Turning(Moves):
    def test_any(self):
        draw = source(1140)
        for told in [TOLD, *told_webs(draw, 15)]:
            for rod, (start, end, *rest) in enumerate(told.rods):
                wanted = ToldWeb(told.joints, told.rods, told.ears)
                wanted.rods[rod] = (end, start, *rest)

                def carry(state):
                    pairs = told.split(state)
                    pairs[rod] = pairs[rod][::-1]
                    return self.joined(pairs)

                web = web_of(told)
                lead = turn(web, rod)
                self.assertIs(lead.first, web)
                self.moved(draw, lead, told, wanted, carry)
                again = turn(lead.second, rod)
                self.assertEqual(again.second, web)
                self.assertEqual(again.table * lead.table, Table.unit(web.cells))

    def test_refused(self):
        for rod in (4, -1, 10 ** 30):
            self.refused(NoRod, {"rod": rod}, turn, WEB, rod)
        self.refused(NoRod, {"rod": 0}, turn, Web(["level"]), 0)


class Renumbering(Moves):
    def test_any(self):
        draw = source(1141)
        for told in [TOLD, *told_webs(draw, 15)]:
            order = draw.sample(range(len(told.joints)), len(told.joints))
            place = {joint: k for k, joint in enumerate(order)}
            wanted = ToldWeb([told.joints[joint] for joint in order],
                             [(place[start], place[end], *rest) for start, end, *rest in told.rods],
                             [(place[joint], strength) for joint, strength in told.ears])
            lead = renumber(web_of(told), tuple(order))
            self.moved(draw, lead, told, wanted, list)
            self.assertEqual(lead.table, Table.unit(told.cells))

    def test_refused(self):
        for order in ([], [0, 1], [0, 1, 1], [1, 2, 3], [-1, 0, 1], [0, 1, 2, 2], [0, 1, 10 ** 30], [0, 1, 2, 3]):
            self.refused(BadOrder, {}, renumber, WEB, order)
        self.refused(BadOrder, {}, renumber, Web(), [0])
        order = [2, 0, 1]
        self.assertEqual(renumber(WEB, order).second.joints, ("level", "level", "stream"))
        self.assertEqual(order, [2, 0, 1])
        self.assertEqual(renumber(Web(), []).second, Web())


class Splitting(Moves):
    def test_any(self):
        draw = source(1142)
        some = 0
        for told in [TOLD, *told_webs(draw, 20)]:
            for rod, (start, end, length, strength, twist) in enumerate(told.rods):
                for at in range(1, length):
                    new = len(told.joints)
                    rods = told.rods + [(new, end, length - at, strength, 1)]
                    rods[rod] = (start, new, at, strength, twist)
                    wanted = ToldWeb(told.joints + ["level"], rods, told.ears)

                    def carry(state):
                        pairs = told.split(state)
                        forth, backs = pairs[rod]
                        pairs[rod] = (forth[:at], backs[length - at:])
                        return self.joined(pairs + [([twist * x for x in forth[at:]], backs[:length - at])])

                    if len(wanted.joints) > 8 or len(wanted.rods) > 8:
                        self.refused(BadCount, {"count": 9}, split, web_of(told), rod, at)
                        continue
                    lead = split(web_of(told), rod, at)
                    self.moved(draw, lead, told, wanted, carry)
                    # The opposite move takes all back.
                    again = merge(lead.second, new)
                    self.assertEqual(again.second, web_of(told))
                    self.assertEqual(again.table * lead.table, Table.unit(told.cells))
                    self.assertEqual(lead.table * again.table, Table.unit(told.cells))
                    some += 1
        self.assertGreater(some, 25)

    def test_known(self):
        web = Web(["level", "stream"], [(0, 1, 3, 5, -1), (1, 1, 1, 2)], [(0, 1)])
        lead = split(web, 0, 1)
        self.assertEqual(lead.second, Web(["level", "stream", "level"],
                                          [(0, 2, 1, 5, -1), (1, 1, 1, 2), (2, 1, 2, 5)], [(0, 1)]))
        self.same(lead([1, 2, 3, 4, 5, 6, 7, 8]), [1, 6, 7, 8, -2, -3, 4, 5])
        self.same(split(web, 0, 2)(list(range(1, 9))), [1, 2, 5, 6, 7, 8, -3, 4])

    def test_edges(self):
        long = Web(["level", "level"], [(0, 1, 12, 1)])
        for at in (1, 11):
            rods = split(long, 0, at).second.rods
            self.assertEqual([rod[2] for rod in rods], [at, 12 - at])
        for at in (0, 12, 13, -1, 10 ** 30):
            self.refused(BadLength, {"length": at}, split, long, 0, at)
        for at in (0, 1, 2):
            self.refused(BadLength, {"length": at}, split, Web(["level"], [(0, 0, 1, 1)]), 0, at)
        for rod in (1, -1, 10 ** 30):
            self.refused(NoRod, {"rod": rod}, split, long, rod, 0)
        rods = [(0, 1, 1, 1)] * 7 + [(0, 1, 2, 1)]
        self.refused(BadCount, {"count": 9}, split, Web(["level"] * 2, rods), 7, 1)
        self.refused(BadLength, {"length": 2}, split, Web(["level"] * 2, rods), 7, 2)
        self.refused(BadCount, {"count": 9}, split, Web(["level"] * 8, rods[6:]), 1, 1)
        self.refused(BadLength, {"length": 1}, split, Web(["level"] * 8, rods[6:]), 0, 1)
        made = split(Web(["level"] * 7, rods[1:]), 6, 1).second
        self.assertEqual((len(made.joints), len(made.rods)), (8, 8))


def merging_web(draw, ways, others):
    """A web in which two rods meet at joint 1 in the given ways, and some other rods elsewhere."""
    strength = some_strength(draw)
    joints = [draw.choice(["level", "stream"]), "level"] + [draw.choice(["level", "stream"]) for _ in range(2)]
    rods = []
    for way in ways:
        far, length, twist = draw.choice([0, 2, 3]), draw.randint(1, 3), draw.choice([1, -1])
        rods.append((far, 1, length, strength, twist) if way == "end" else (1, far, length, strength, twist))
    for _ in range(others):
        rods.insert(draw.randint(0, len(rods)),
                    (draw.choice([0, 2, 3]), draw.choice([0, 2, 3]), draw.randint(1, 2), some_strength(draw),
                     draw.choice([1, -1])))
    return ToldWeb(joints, rods, [(draw.choice([0, 2, 3]), some_strength(draw)) for _ in range(2)])


class Merging(Moves):
    def looked_at(self, draw, told):
        """Merging at joint 1: the numbers in the order in which they pass the two rods."""
        (side, first), (far_side, second) = told.joint_arms(1)
        start, end, length, strength, twist = told.rods[first]
        far = told.rods[second][1] if far_side == "start" else told.rods[second][0]
        far_length, far_twist = told.rods[second][2], told.rods[second][4]
        number = {joint: joint - (joint > 1) for joint in range(len(told.joints))}
        rods = list(told.rods)
        ends = (start, far) if side == "end" else (far, end)
        rods[first] = (*ends, length + far_length, strength, twist * far_twist)
        del rods[second]
        wanted = ToldWeb(told.joints[:1] + told.joints[2:],
                         [(number[rod[0]], number[rod[1]], *rod[2:]) for rod in rods],
                         [(number[joint], size) for joint, size in told.ears])

        def carry(state):
            pairs = told.split(state)
            forth, backs = pairs[first]
            toward, away = pairs[second] if far_side == "end" else pairs[second][::-1]
            if side == "end":
                whole = (forth + [twist * x for x in away], toward + [far_twist * x for x in backs])
            else:
                whole = (toward + [far_twist * x for x in forth], backs + [twist * x for x in away])
            pairs[first] = whole
            del pairs[second]
            return self.joined(pairs)

        web = web_of(told)
        lead = merge(web, 1)
        self.assertIs(lead.first, web)
        self.moved(draw, lead, told, wanted, carry)
        self.arrives_as_before(lead)

    def arrives_as_before(self, lead):
        """What arrives at all other joints is the same, from each single number on."""
        silence = [0] * lead.first.ears
        for state in units(lead.first.cells):
            other = lead(state)
            for _ in range(6):
                ahead, beside = lead.first.commons(state, silence), lead.second.commons(other, silence)
                self.assertEqual(ahead[:1] + ahead[2:], beside)
                state, other = lead.first.tick(state, silence)[0], lead.second.tick(other, silence)[0]

    def test_four_ways(self):
        draw = source(1143)
        for first in ("start", "end"):
            for second in ("start", "end"):
                for _ in range(8):
                    self.looked_at(draw, merging_web(draw, (first, second), draw.randint(0, 2)))

    def test_known(self):
        ring = Web(["level", "level"], [(0, 1, 1, 2, -1), (0, 1, 2, 2)], [(1, 3)])
        lead = merge(ring, 0)
        self.assertEqual(lead.second, Web(["level"], [(0, 0, 3, 2, -1)], [(0, 3)]))
        self.same(lead([1, 2, 3, 4, 5, 6]), [5, 6, 1, 2, -3, -4])
        line = Web(["level"] * 3, [(0, 1, 5, 1), (1, 2, 7, 1)])
        self.assertEqual(merge(line, 1).second, Web(["level"] * 2, [(0, 1, 12, 1)]))
        self.same(merge(line, 1)(list(range(24))), [*range(5), *range(10, 17), *range(17, 24), *range(5, 10)])
        later = Web(["level"] * 4, [(3, 3, 1, 4), (2, 3, 1, 1), (0, 1, 1, 5), (3, 1, 1, 1)], [(2, 1), (0, 2)])
        self.refused(NoMerge, {"joint": 3}, merge, later, 3)
        self.refused(NoMerge, {"joint": 1}, merge, later, 1)
        later = Web(["level"] * 4, [(2, 2, 1, 4), (2, 3, 1, 1), (0, 1, 1, 5), (3, 1, 1, 1)], [(2, 1), (1, 2)])
        self.assertEqual(merge(later, 3).second,
                         Web(["level"] * 3, [(2, 2, 1, 4), (2, 1, 2, 1), (0, 1, 1, 5)], [(2, 1), (1, 2)]))

    def test_refused(self):
        pair = [(0, 1, 1, 2), (1, 2, 1, 2)]
        good = Web(["level"] * 3, pair)
        for joint in (3, -1, 10 ** 30):
            self.refused(NoJoint, {"joint": joint}, merge, good, joint)
        self.assertEqual(merge(good, 1).second, Web(["level"] * 2, [(0, 1, 2, 2)]))
        for web in (Web(["level", "stream", "level"], pair), Web(["level"] * 3, pair + [(1, 1, 1, 2)]),
                    Web(["level"] * 3, pair + [(1, 2, 1, 2)]), Web(["level"] * 3, pair, [(1, 2)]),
                    Web(["level"] * 3, pair[:1], [(1, 2)]), Web(["level"] * 3, pair[1:]), Web(["level"] * 3, [pair[0]]),
                    Web(["level"] * 3), Web(["level"] * 2, [], [(1, 2), (1, 2)]), Web(["level"] * 2, [(1, 1, 2, 2)]),
                    Web(["level"] * 3, [(0, 1, 1, 2), (1, 2, 1, Frac(2, 3))])):
            self.refused(NoMerge, {"joint": 1}, merge, web, 1)


def twin_web(draw, shape, twist):
    """A web in which two rods run side by side, with the numbers of the two, and some other rods."""
    ends = {"same": [(0, 1), (0, 1)], "opposite": [(1, 0), (0, 1)], "loops": [(0, 0), (0, 0)]}[shape]
    length = draw.randint(1, 3)
    joints = ["level", "level"] + [draw.choice(["level", "stream"]) for _ in range(2)]
    rods = [(draw.randrange(4), draw.randrange(4), draw.randint(1, 2), some_strength(draw), draw.choice([1, -1]))
            for _ in range(draw.randint(0, 3))]
    places = []
    for start, end in ends:
        at = draw.randint(0, len(rods))
        places = [place + (place >= at) for place in places] + [at]
        rods.insert(at, (start, end, length, some_strength(draw), twist))
    told = ToldWeb(joints, rods, [(draw.randrange(4), some_strength(draw)) for _ in range(draw.randint(1, 3))])
    return told, places


class Twins(Moves):
    def looked_at(self, draw, told, first, second):
        kept, gone = min(first, second), max(first, second)
        start, end, length, strength, twist = told.rods[kept]
        other = told.rods[gone][3]
        rods = list(told.rods)
        rods[kept] = (start, end, length, strength + other, twist)
        del rods[gone]
        wanted = ToldWeb(told.joints, rods, told.ears)
        same = told.rods[gone][:2] == (start, end)

        def carry(state):
            pairs = told.split(state)
            beside = pairs[gone] if same else pairs[gone][::-1]
            pairs[kept] = tuple([(strength * x + other * y) / (strength + other) for x, y in zip(mine, theirs)]
                                for mine, theirs in zip(pairs[kept], beside))
            del pairs[gone]
            return self.joined(pairs)

        web = web_of(told)
        lead = twin(web, first, second)
        self.assertIs(lead.first, web)
        self.moved(draw, lead, told, wanted, carry)
        self.assertLessEqual(Space.kernel(lead.table), silent(web))
        self.assertTrue(alike(web, lead.second))

    def test_any(self):
        draw = source(1144)
        for shape in ("same", "opposite", "loops"):
            for twist in (1, -1):
                for turn_round in (1, -1):
                    for _ in range(3):
                        told, places = twin_web(draw, shape, twist)
                        if told.cells <= 24:
                            self.looked_at(draw, told, *places[::turn_round])

    def test_known(self):
        web = Web(["level"] * 2, [(0, 1, 1, 1), (1, 0, 1, 2)], [(0, 1)])
        for first, second in ((0, 1), (1, 0)):
            lead = twin(web, first, second)
            self.assertEqual(lead.second, Web(["level"] * 2, [(0, 1, 1, 3)], [(0, 1)]))
            self.same(lead([3, 6, 9, 12]), [9, 8])
        loops = Web(["level"], [(0, 0, 2, 3), (0, 0, 2, 1)], [(0, 1)])
        self.same(twin(loops, 1, 0)([0, 4, 8, 12, 16, 20, 24, 28]), [4, 8, 12, 16])

    def test_refused(self):
        web = Web(["level", "level", "stream"],
                  [(0, 1, 1, 1), (0, 1, 2, 1), (0, 1, 1, 1, -1), (0, 2, 1, 1), (0, 2, 1, 1), (0, 0, 1, 1)], [(0, 1)])
        for rod in (6, -1, 10 ** 30):
            self.refused(NoRod, {"rod": rod}, twin, web, rod, 99)
            self.refused(NoRod, {"rod": rod}, twin, web, 0, rod)
        for first, second in ((0, 0), (0, 1), (0, 2), (3, 4), (0, 3), (0, 5), (5, 0), (2, 0), (4, 3), (3, 0)):
            self.refused(NoTwin, {"first": first, "second": second}, twin, web, first, second)
        streams = Web(["stream"], [(0, 0, 1, 1), (0, 0, 1, 1)])
        self.refused(NoTwin, {"first": 0, "second": 1}, twin, streams, 0, 1)
        mixed = Web(["stream", "level"], [(0, 1, 1, 1), (1, 0, 1, 1)])
        self.refused(NoTwin, {"first": 1, "second": 0}, twin, mixed, 1, 0)


class Nothing(Looks, unittest.TestCase):
    def test_changes(self):
        webs = [Web(["level"] * 3, [(0, 1, 2, 1), (0, 1, 2, HALF), (1, 2, 1, 1)], [(0, 1)]) for _ in range(2)]
        line = [Web(["level"] * 3, [(0, 1, 2, 1), (1, 2, 1, 1)], [(0, 1)]) for _ in range(2)]
        for call, arguments in ((turn, (0,)), (renumber, ([1, 2, 0],)), (split, (1, 1)), (twin, (1, 0))):
            call(webs[0], *arguments)
            self.assertEqual(webs[0], webs[1])
        merge(line[0], 1)
        self.assertEqual(line[0], line[1])

    def test_largest(self):
        draw = source(1145)
        told = some_told(draw, 8, 0, 4)
        told.rods = [(k, (k + 1) % 8, 1 + (k < 4), frac(1), 1) for k in range(8)]
        web = Web(told.joints, told.rods, web_of(ToldWeb(told.joints, [], told.ears)).ear_list)
        self.assertEqual((web.cells, web.ears), (24, 4))
        lead = turn(web, 7)
        self.assertEqual(exact(lead(list(range(24)))), [*range(22), 23, 22])
        self.assertEqual(sum(Fraction(1) for row in lead.table for x in row if x != 0), 24)


if __name__ == "__main__":
    unittest.main()
