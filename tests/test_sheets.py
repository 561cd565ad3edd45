"""Point 110: sheets."""

import unittest
from fractions import Fraction

from rodwebs.errors import BadCount, BadOrder, BadSizes, TooLarge
from rodwebs.fracs import Frac
from rodwebs.runs import play
from rodwebs.shapes import side_by_side
from rodwebs.sheets import sheets
from rodwebs.webs import Web
from tests.helpers import Looks, exact, fracs, source
from tests.players import web_of
from tests.told import some_state, some_told

WEB = Web(["level", "stream"], [(0, 1, 1, 2, -1), (1, 1, 2, Frac(1, 3))], [(1, 5)])


def average(lists):
    """The averages of lists of one length, place by place, in Fractions."""
    return [sum(numbers) / len(numbers) for numbers in zip(*exact(lists))]


def cut(numbers, count):
    """A list cut into so many pieces of one length."""
    size = len(numbers) // count
    return [numbers[k * size:(k + 1) * size] for k in range(count)]


class Sheets(Looks, unittest.TestCase):
    def test_shape(self):
        self.assertEqual(sheets(WEB, 2, [[1, 0], [0, 1]]), Web(
            ["level", "stream"] * 2,
            [(0, 3, 1, 2, -1), (1, 1, 2, Frac(1, 3)), (2, 1, 1, 2, -1), (3, 3, 2, Frac(1, 3))], [(1, 5), (3, 5)]))
        self.assertEqual(sheets(WEB, 3, ((1, 2, 0), (2, 0, 1))), Web(
            ["level", "stream"] * 3,
            [(0, 3, 1, 2, -1), (1, 5, 2, Frac(1, 3)), (2, 5, 1, 2, -1), (3, 1, 2, Frac(1, 3)),
             (4, 1, 1, 2, -1), (5, 3, 2, Frac(1, 3))], [(1, 5), (3, 5), (5, 5)]))
        self.assertEqual(sheets(WEB, 1, [[0], [0]]), WEB)
        self.assertEqual(sheets(WEB, 4, [[0, 1, 2, 3]] * 2), side_by_side(WEB, WEB, WEB, WEB))
        self.assertEqual(sheets(Web(), 4, []), Web())
        self.assertEqual(sheets(Web(["level", "stream"]), 4, []), Web(["level", "stream"] * 4))

    def test_averages(self):
        draw = source(1100)
        some = 0
        for _ in range(30):
            count = draw.randint(1, 4)
            told = some_told(draw, draw.randint(1, 8 // count), draw.randint(0, 8 // count),
                             draw.randint(0, 4 // count), 1 + (count < 3))
            if told.cells * count > 24:
                continue
            web = web_of(told)
            shuffles = [draw.sample(range(count), count) for _ in told.rods]
            made = sheets(web, count, shuffles)
            self.assertIs(type(made), Web)
            start = some_state(draw, told.cells * count)
            knocks = [some_state(draw, len(told.ears) * count) for _ in range(4)]
            record = play(made, fracs(start), [fracs(numbers) for numbers in knocks])
            mean = play(web, fracs(average(cut(start, count))),
                        [fracs(average(cut(numbers, count))) for numbers in knocks])
            for given, wanted in zip(record.states(), mean.states()):
                self.assertEqual(average(cut(given, count)), exact(wanted))
            for given, wanted in zip(record.heard_lists(), mean.heard_lists()):
                self.assertEqual(average(cut(given, count)), exact(wanted))
            for number, (start, end, length, strength, twist) in enumerate(made.rods):
                sheet, rod = divmod(number, len(told.rods))
                told_start, told_end, *rest = told.rods[rod]
                size = len(told.joints)
                self.assertEqual((start, end), (sheet * size + told_start, shuffles[rod][sheet] * size + told_end))
                self.assertEqual([length, Fraction(strength.num, strength.den), twist], rest)
            some += 1
        self.assertGreater(some, 20)

    def test_count_refused(self):
        for count in (0, 5, -1, 10 ** 30):
            self.refused(BadCount, {"count": count}, sheets, WEB, count, [])
            self.refused(BadCount, {"count": count}, sheets, Web(["level"] * 5), count, [[9]])

    def test_too_many(self):
        joints = Web(["level"] * 3, [(0, 0, 1, 1)] * 3 + [(0, 0, 2, 1)], [(0, 1)] * 2)
        rods = Web(["level"] * 2, [(0, 0, 1, 1)] * 2 + [(0, 1, 2, 1)], [(0, 1)] * 2)
        cells = Web(["level"] * 2, [(0, 0, 2, 1)] * 2 + [(0, 1, 1, 1)], [(0, 1)] * 3)
        ears = Web(["level"] * 2, [(0, 0, 1, 1)], [(0, 1)] * 2)
        self.refused(BadCount, {"count": 9}, sheets, joints, 3, [])
        self.refused(BadCount, {"count": 12}, sheets, joints, 4, [[5]])
        self.refused(BadCount, {"count": 9}, sheets, rods, 3, [])
        self.refused(BadCount, {"count": 12}, sheets, rods, 4, [])
        self.refused(TooLarge, {"size": 40}, sheets, Web(["level"], [(0, 0, 5, 1)], [(0, 1)] * 2), 4, [])
        self.refused(BadCount, {"count": 6}, sheets, cells, 2, [])
        self.refused(BadCount, {"count": 6}, sheets, ears, 3, [[9]])
        self.refused(BadCount, {"count": 8}, sheets, ears, 4, [])
        fitting = Web(["level"] * 2, [(0, 1, 1, 1), (1, 0, 2, 1)], [(0, 1)])
        made = sheets(fitting, 4, [[3, 2, 1, 0], [1, 2, 3, 0]])
        self.assertEqual((len(made.joints), len(made.rods), made.cells, made.ears), (8, 8, 24, 4))

    def test_shuffles_refused(self):
        for given in (0, 1, 3):
            self.refused(BadSizes, {"given": given, "wanted": 2}, sheets, WEB, 2, [[9]] * given)
        for shuffle in ([], [0], [0, 0], [1, 2], [0, 1, 2], [-1, 0], [0, 10 ** 30], [2, 0]):
            self.refused(BadOrder, {}, sheets, WEB, 2, [shuffle, [0, 1]])
            self.refused(BadOrder, {}, sheets, WEB, 2, [[1, 0], shuffle])
        self.refused(BadSizes, {"given": 1, "wanted": 0}, sheets, Web(["level"]), 3, [[0, 1, 2]])

    def test_nothing_changes(self):
        shuffles = [[1, 0], [0, 1]]
        sheets(WEB, 2, shuffles)
        self.assertEqual(shuffles, [[1, 0], [0, 1]])
        self.assertEqual(WEB, Web(["level", "stream"], [(0, 1, 1, 2, -1), (1, 1, 2, Frac(1, 3))], [(1, 5)]))


if __name__ == "__main__":
    unittest.main()
