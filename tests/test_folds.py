"""Point 109, with points 37 and 38: classes and fold."""

import unittest
from fractions import Fraction

from rodwebs.errors import NotLevel
from rodwebs.folds import classes, fold
from rodwebs.fracs import Frac
from rodwebs.runs import echoes
from rodwebs.tables import Table
from rodwebs.webs import Web
from tests.helpers import Looks, frac, source, some_strength
from tests.players import Leads, web_of
from tests.told import ToldWeb

HALF = Fraction(1, 2)


def partitions(joints):
    """All partitions of a list into classes, each a list of lists."""
    if not joints:
        yield []
        return
    for rest in partitions(joints[1:]):
        yield [[joints[0]], *rest]
        for k, part in enumerate(rest):
            yield [*rest[:k], [joints[0], *part], *rest[k + 1:]]


def shares(told, joint, parts):
    """All shares of a joint that are not 0, by class, length, twist and side, in Fractions."""
    arms = told.joint_arms(joint)
    total = sum((told.strength(arm) for arm in arms), Fraction(0))
    out = {}
    for arm in arms:
        if arm[0] != "ear":
            start, end, length, strength, twist = told.rods[arm[1]]
            other = end if arm[0] == "start" else start
            place = next(k for k, part in enumerate(parts) if other in part)
            out[place, length, twist, arm[0]] = out.get((place, length, twist, arm[0]), 0) + strength / total
    return out


def is_even(told, parts):
    eared = {joint for joint, _ in told.ears}
    for part in parts:
        if len(part) > 1 and eared & set(part):
            return False
        if any(shares(told, joint, parts) != shares(told, part[0], parts) for joint in part):
            return False
    return True


def some_level(draw, joints, rods, ears):
    """A level web with few different strengths, so that classes with several joints are not rare."""
    made = [(draw.randrange(joints), draw.randrange(joints), draw.choice([1, 1, 2]), Fraction(draw.choice([1, 1, 2])),
             draw.choice([1, 1, 1, -1])) for _ in range(rods)]
    return ToldWeb(["level"] * joints, made, [(draw.randrange(joints), some_strength(draw)) for _ in range(ears)])


def told_levels(draw, count):
    one, two = Fraction(1), Fraction(2)
    yield ToldWeb([], [], [])
    yield ToldWeb(["level"] * 3, [], [(1, one)])
    yield ToldWeb(["level"] * 3, [(0, 1, 1, one), (0, 2, 1, one)], [(0, one)])
    yield ToldWeb(["level"] * 3, [(0, 1, 1, one), (2, 0, 1, one)], [(0, one)])
    yield ToldWeb(["level"] * 3, [(0, 1, 1, one), (0, 2, 1, two)], [(0, one)])
    yield ToldWeb(["level"] * 5, [(0, 1, 1, one), (0, 2, 1, one), (1, 3, 1, one), (2, 4, 1, one)], [(0, one)])
    yield ToldWeb(["level"] * 5, [(0, 1, 1, one), (0, 2, 1, one), (1, 3, 1, one), (2, 4, 1, two)], [(0, one)])
    yield ToldWeb(["level"] * 3, [(0, 0, 2, one), (1, 1, 2, two), (2, 2, 2, one, -1)], [])
    yield ToldWeb(["level"] * 4, [(0, 1, 1, one), (1, 2, 1, one), (2, 3, 1, one), (3, 0, 1, one)], [])
    yield ToldWeb(["level"] * 4, [(0, 1, 1, one), (1, 2, 1, one), (2, 3, 1, one), (3, 0, 1, one)], [(2, one)])
    yield ToldWeb(["level"] * 3, [(0, 1, 1, one), (0, 2, 1, one), (1, 2, 1, one), (2, 1, 1, one)], [(0, one), (0, two)])
    for _ in range(count):
        yield some_level(draw, draw.randint(1, 6), draw.randint(0, 6), draw.randint(0, 2))


class Classes(Looks, unittest.TestCase):
    def test_fewest(self):
        draw = source(1090)
        several = 0
        for told in told_levels(draw, 25):
            given = classes(web_of(told))
            self.assertEqual([type(part) for part in (given, *given)], [tuple] * (len(given) + 1))
            self.assertTrue(all(type(joint) is int for part in given for joint in part))
            self.assertEqual(sorted(joint for part in given for joint in part), list(range(len(told.joints))))
            self.assertEqual([list(part) for part in given], sorted(sorted(part) for part in given))
            self.assertTrue(is_even(told, given))
            several += len(given) < len(told.joints)
            if len(told.joints) <= 5:
                for parts in partitions(list(range(len(told.joints)))):
                    if is_even(told, parts):
                        # Every class of another even partition lies inside one of the classes.
                        self.assertTrue(all(any(set(part) <= set(whole) for whole in given) for part in parts))
        self.assertGreater(several, 10)

    def test_known(self):
        def given(count, rods, ears=()):
            return classes(Web(["level"] * count, rods, ears))

        self.assertEqual(classes(Web()), ())
        self.assertEqual(given(3, [], [(1, 1)]), ((0, 2), (1,)))
        self.assertEqual(given(3, [(0, 1, 1, 1), (0, 2, 1, 1)], [(0, 1)]), ((0,), (1, 2)))
        # All that stands at a rod's end hears the same share of it, however strong the rod is.
        self.assertEqual(given(3, [(0, 1, 1, 1), (0, 2, 1, 7)], [(0, 1)]), ((0,), (1, 2)))
        self.assertEqual(given(3, [(0, 1, 1, 1), (0, 2, 2, 1)], [(0, 1)]), ((0,), (1,), (2,)))
        self.assertEqual(given(3, [(0, 1, 1, 1), (0, 2, 1, 1, -1)], [(0, 1)]), ((0,), (1,), (2,)))
        self.assertEqual(given(3, [(0, 1, 1, 1), (2, 0, 1, 1)], [(0, 1)]), ((0,), (1,), (2,)))
        self.assertEqual(given(3, [(1, 0, 1, 1), (2, 0, 1, 1)], [(0, 1)]), ((0,), (1, 2)))
        self.assertEqual(given(3, [(0, 1, 1, 1), (0, 2, 1, 1)], [(1, 1)]), ((0,), (1,), (2,)))
        # Loops: the other side of each side is at the same joint.
        self.assertEqual(given(2, [(0, 0, 1, 1), (1, 1, 1, 5)]), ((0, 1),))
        self.assertEqual(given(2, [(0, 0, 1, 1), (0, 1, 1, 1), (1, 0, 1, 1), (1, 1, 1, 1)]), ((0, 1),))
        self.assertEqual(given(2, [(0, 1, 1, 1), (1, 0, 1, 1)]), ((0, 1),))
        self.assertEqual(given(2, [(0, 1, 1, 1), (1, 0, 1, 2)]), ((0,), (1,)))
        self.assertEqual(given(2, [(0, 0, 1, 1)]), ((0,), (1,)))
        self.assertEqual(given(8, [(k, (k + 1) & 7, 1, 3) for k in range(8)]), (tuple(range(8)),))
        # Only the last step of the parting tells the joints of a long line apart.
        line = [(k, k + 1, 1, 1) for k in range(7)]
        self.assertEqual(given(8, line), tuple((k,) for k in range(8)))
        both = line[:3] + [(k + 4, k + 5, 1, 1) for k in range(3)]
        self.assertEqual(given(8, both), ((0, 4), (1, 5), (2, 6), (3, 7)))
        self.assertEqual(given(8, both, [(3, 1)]), tuple((k,) for k in range(8)))

    def test_shares_count_the_ears(self):
        self.assertEqual(classes(Web(["level"] * 3, [(0, 1, 1, 1), (0, 2, 1, 1)], [(1, 1), (2, 1)])),
                         ((0,), (1,), (2,)))

    def test_not_level(self):
        for call in (classes, fold):
            for web in (Web(["stream"]), Web(["level", "stream"], [(0, 1, 1, 1)], [(0, 1)])):
                self.refused(NotLevel, {}, call, web)


class Folds(Leads, Looks, unittest.TestCase):
    def looked_at(self, told, draw):
        web = web_of(told)
        parts = classes(web)
        lead = fold(web)
        self.leads(draw, lead, lead.first, web)
        numbers = {joint: k for k, part in enumerate(parts) for joint in part}
        groups = []
        for rod, (start, end, length, strength, twist) in enumerate(told.rods):
            place = (numbers[start], numbers[end], length, twist)
            group = next((group for group in groups if group[0] == place), None)
            if group is None:
                group = [place, []]
                groups.append(group)
            group[1].append(rod)
        rods = [(*place[:3], frac(sum(told.rods[rod][3] for rod in group)), place[3]) for place, group in groups]
        ears = [(numbers[joint], frac(strength)) for joint, strength in told.ears]
        self.assertEqual(lead.first, Web(["level"] * len(parts), rods, ears))
        state = list(range(1, lead.first.cells + 1))
        lifted = lead(state)
        for number, (_, group) in enumerate(groups):
            for rod in group:
                self.assertEqual(web.forth(lifted, rod), lead.first.forth(state, number))
                self.assertEqual(web.backs(lifted, rod), lead.first.backs(state, number))
        self.assertEqual(echoes(lead.first, 6), echoes(web, 6))
        return lead

    def test_any(self):
        draw = source(1091)
        folded = 0
        for told in told_levels(draw, 25):
            lead = self.looked_at(told, draw)
            folded += lead.first.cells < lead.second.cells
        self.assertGreater(folded, 6)

    def test_known(self):
        two = Web(["level"] * 3, [(0, 1, 1, 1), (0, 2, 1, 2)], [(0, 1)])
        lead = fold(two)
        self.assertEqual(lead.first, Web(["level"] * 2, [(0, 1, 1, 3)], [(0, 1)]))
        self.assertEqual(lead.table, Table([[1, 0], [0, 1]] * 2))
        square = Web(["level"] * 4, [(0, 1, 1, 1), (2, 1, 1, 1), (2, 3, 1, 1), (0, 3, 1, 1)], [])
        self.assertEqual(fold(square).first, Web(["level"] * 2, [(0, 1, 1, 4)]))
        ring = fold(Web(["level"] * 8, [(k, (k + 1) & 7, 1, Frac(1, 2)) for k in range(8)]))
        self.assertEqual(ring.first, Web(["level"], [(0, 0, 1, 4)]))
        self.assertEqual(fold(Web()).first, Web())
        self.assertEqual(fold(Web(["level"] * 8, [], [(7, 2)])).first, Web(["level"] * 2, [], [(1, 2)]))

    def test_rods_inside_a_class(self):
        draw = source(1092)
        one = Fraction(1)
        both = ToldWeb(["level"] * 2, [(0, 1, 2, one), (1, 0, 2, one), (0, 0, 1, HALF, -1), (1, 1, 1, HALF, -1)], [])
        lead = self.looked_at(both, draw)
        self.assertEqual(lead.first, Web(["level"], [(0, 0, 2, 2), (0, 0, 1, 1, -1)]))

    def test_nothing_changes(self):
        web = Web(["level"] * 3, [(0, 1, 1, 1), (0, 2, 1, 2)], [(0, 1)])
        fold(web)
        self.assertEqual(web, Web(["level"] * 3, [(0, 1, 1, 1), (0, 2, 1, 2)], [(0, 1)]))


if __name__ == "__main__":
    unittest.main()
