"""Point 78, with points 46 and 47 as far as they speak of distances and walks."""

import unittest

from rodwebs.errors import NoEar, NoJoint
from rodwebs.ways import distances, ear_distance, odd_round, pieces
from rodwebs.webs import Web
from tests.helpers import Looks, source
from tests.told import told_webs

LONGEST = 60


def reached(told, joint):
    """For each length up to the longest the joints to which a walk of just this length leads."""
    at = [{joint}]
    for length in range(1, LONGEST):
        now = set()
        for start, end, long, _, _ in told.rods:
            ahead = at[length - long] if long <= length else set()
            if start in ahead:
                now.add(end)
            if end in ahead:
                now.add(start)
        at.append(now)
    return at


def least(told, joint, other, lengths=range(LONGEST)):
    at = reached(told, joint)
    return next((length for length in lengths if other in at[length]), None)


class Ways(Looks, unittest.TestCase):
    def webs(self, count=25):
        for told in told_webs(source(78), count):
            yield told, Web(*told.passed())

    def told_integers(self, values):
        for value in values:
            self.assertIn(type(value), (int, type(None)))

    def test_distances(self):
        for told, web in self.webs():
            for joint in range(len(told.joints)):
                given = distances(web, joint)
                self.assertIs(type(given), list)
                self.told_integers(given)
                self.assertEqual(given, [least(told, joint, other) for other in range(len(told.joints))])

    def test_told_distances(self):
        web = Web(["level"] * 5, [(1, 0, 5, 1), (1, 2, 1, 1, -1), (0, 2, 3, 1), (2, 2, 1, 1), (3, 3, 1, 1)], [])
        self.assertEqual(distances(web, 0), [0, 4, 3, None, None])
        self.assertEqual(distances(web, 1), [4, 0, 1, None, None])
        self.assertEqual(distances(web, 3), [None, None, None, 0, None])
        self.assertEqual(distances(web, 4), [None, None, None, None, 0])
        chain = Web(["level"] * 8, [(7 - k, 6 - k, 1, 1) for k in range(7)])
        self.assertEqual(distances(chain, 7), [7, 6, 5, 4, 3, 2, 1, 0])
        self.assertEqual(distances(chain, 0), [0, 1, 2, 3, 4, 5, 6, 7])
        for joint in (5, -1, 10 ** 30):
            self.refused(NoJoint, {"joint": joint}, distances, web, joint)
        self.refused(NoJoint, {"joint": 0}, distances, Web(), 0)

    def test_returned_lists_are_new(self):
        web = Web(["level", "level"], [(0, 1, 1, 1)])
        distances(web, 0)[0] = 9
        pieces(web).clear()
        self.assertEqual(distances(web, 0), [0, 1])
        self.assertEqual(pieces(web), [(0, 1)])

    def test_ear_distance(self):
        for told, web in self.webs():
            for first, ear in enumerate(told.ears):
                for second, other in enumerate(told.ears):
                    given = ear_distance(web, first, second)
                    self.told_integers([given])
                    self.assertEqual(given, least(told, ear[0], other[0]))

    def test_ear_distance_told(self):
        web = Web(["level"] * 3, [(0, 1, 4, 1)], [(0, 1), (1, 1), (2, 1), (0, 2)])
        self.assertEqual([ear_distance(web, 0, ear) for ear in range(4)], [0, 4, None, 0])
        self.refused(NoEar, {"ear": 4}, ear_distance, web, 4, 9)
        self.refused(NoEar, {"ear": -1}, ear_distance, web, -1, 0)
        self.refused(NoEar, {"ear": 9}, ear_distance, web, 0, 9)
        self.refused(NoEar, {"ear": -2}, ear_distance, web, 3, -2)
        self.refused(NoEar, {"ear": 0}, ear_distance, Web(["level"]), 0, 0)

    def test_pieces(self):
        for told, web in self.webs():
            given = pieces(web)
            self.assertIs(type(given), list)
            wanted = {tuple(other for other in range(len(told.joints)) if least(told, joint, other) is not None)
                      for joint in range(len(told.joints))}
            for piece in given:
                self.assertIs(type(piece), tuple)
                self.told_integers(piece)
            self.assertEqual(given, sorted(wanted))
        self.assertEqual(pieces(Web()), [])
        self.assertEqual(pieces(Web(["level"] * 5, [(4, 0, 1, 1), (3, 1, 1, 1)])), [(0, 4), (1, 3), (2,)])

    def test_odd_round(self):
        odd = range(1, LONGEST, 2)
        found = 0
        for told, web in self.webs(40):
            for ear, (joint, _) in enumerate(told.ears):
                given = odd_round(web, ear)
                self.told_integers([given])
                self.assertEqual(given, least(told, joint, joint, odd))
                found += given is not None
        self.assertGreater(found, 5)

    def test_odd_round_told(self):
        web = Web(["level"] * 4, [(0, 1, 2, 1), (2, 1, 2, 1), (2, 2, 3, 1, -1)], [(0, 1), (2, 1), (3, 1)])
        self.assertEqual([odd_round(web, ear) for ear in range(3)], [11, 3, None])
        triangle = Web(["stream"] * 3, [(0, 1, 1, 1), (1, 2, 1, 1), (0, 2, 1, 1)], [(1, 1)])
        self.assertEqual(odd_round(triangle, 0), 3)
        self.assertIsNone(odd_round(Web(["level"] * 2, [(0, 1, 1, 1), (0, 1, 3, 1)], [(0, 1)]), 0))
        self.assertEqual(odd_round(Web(["level"] * 2, [(0, 1, 1, 1), (0, 1, 4, 1)], [(0, 1)]), 0), 5)
        self.assertIsNone(odd_round(Web(["level"], [(0, 0, 2, 1)], [(0, 1)]), 0))
        self.assertEqual(odd_round(Web(["level"], [(0, 0, 12, 1), ], [(0, 1)]), 0), None)
        self.assertEqual(odd_round(Web(["level"], [(0, 0, 11, 1), ], [(0, 1)]), 0), 11)
        for ear in (1, -1, 10 ** 30):
            self.refused(NoEar, {"ear": ear}, odd_round, triangle, ear)

    def test_longest_round(self):
        rods = [(k, k + 1, 1, 1) for k in range(7)] + [(7, 7, 3, 1)]
        self.assertEqual(odd_round(Web(["level"] * 8, rods, [(0, 1)]), 0), 17)
        rods = [(k + 1, k, 1, 1) for k in reversed(range(7))] + [(7, 7, 5, 1)]
        self.assertEqual(odd_round(Web(["level"] * 8, rods, [(0, 1)]), 0), 19)


class Plain(Looks, unittest.TestCase):
    """Point 47: what distances and odd rounds tell of the echoes of a plain web."""

    def test_first_echoes(self):
        seen = 0
        for told in told_webs(source(47), 60):
            web = Web(["level"] * len(told.joints), [rod[:4] for rod in told.passed()[1]], told.passed()[2])
            told.joints = ["level"] * len(told.joints)
            told.rods = [rod[:4] + (1,) for rod in told.rods]
            tables = told.echoes(14)
            for heard in range(web.ears):
                for knocked in range(web.ears):
                    if heard == knocked:
                        far, ticks = odd_round(web, heard), range(1, 14, 2)
                    else:
                        far, ticks = ear_distance(web, heard, knocked), range(14)
                    for tick in ticks:
                        if far is None or tick < far:
                            self.assertEqual(tables[tick][heard][knocked], 0)
                        elif tick == far:
                            self.assertGreater(tables[tick][heard][knocked], 0)
                            seen += 1
        self.assertGreater(seen, 20)


if __name__ == "__main__":
    unittest.main()
