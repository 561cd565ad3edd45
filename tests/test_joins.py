"""Points 119 and 120, with point 41: linked_web, cut, closed, behind."""

import unittest
from fractions import Fraction

from rodwebs.errors import (
    BadCount, BadKind, BadLength, BadLink, BadStrength, BadTwist, Mismatch, NoEar, NoRod, TooLarge,
)
from rodwebs.fracs import Frac
from rodwebs.joins import behind, closed, cut, linked_web
from rodwebs.peeling import pile_of
from rodwebs.piles import Pile
from rodwebs.shapes import re_eared, side_by_side, with_ear
from rodwebs.webs import Web
from tests.helpers import Looks, exact, frac, fracs, some_strength, source
from tests.players import TOLD, web_of
from tests.told import some_state, some_told, told_webs

HALF = Frac(1, 2)
ONE = Web(["level", "stream"], [(0, 1, 1, 2, -1)], [(0, 1), (1, HALF), (0, 3)])
OTHER = Web(["stream"], [(0, 0, 2, 5)], [(0, HALF), (0, 1)])


class LinkedWebs(Looks, unittest.TestCase):
    def test_known(self):
        self.assertEqual(linked_web([ONE, OTHER], [(1, 3, 4)]), Web(
            ["level", "stream", "stream"], [(0, 1, 1, 2, -1), (2, 2, 2, 5), (1, 2, 4, HALF)],
            [(0, 1), (0, 3), (2, 1)]))
        self.assertEqual(linked_web((OTHER, ONE), ([3, 0, 1, -1], (2, 1, 2, 1))), Web(
            ["stream", "level", "stream"], [(0, 0, 2, 5), (1, 2, 1, 2, -1), (2, 0, 1, HALF, -1), (1, 0, 2, 1)],
            [(1, 3)]))
        self.assertEqual(linked_web([ONE], []), ONE)
        self.assertEqual(linked_web([Web()] * 4, []), Web())
        self.assertEqual(linked_web([Web(), OTHER], []), OTHER)
        # A web with itself, also at one joint.
        both = Web(["level"], [], [(0, 2), (0, 2), (0, 1)])
        self.assertEqual(linked_web([both], [(1, 0, 12, -1)]), Web(["level"], [(0, 0, 12, 2, -1)], [(0, 1)]))

    def test_no_links(self):
        small = Web(["level"], [(0, 0, 1, 1)], [(0, 1)])
        self.assertEqual(linked_web([small] * 4, []), side_by_side(small, small, small, small))

    def test_webs_refused(self):
        for webs in ([], [Web()] * 5, [ONE] * 300):
            self.refused(BadCount, {"count": len(webs)}, linked_web, webs, [(9, 9, 99)] * 9)

    def test_links_refused(self):
        webs = [ONE, OTHER]
        for count in (9, 10, 300):
            self.refused(BadCount, {"count": count}, linked_web, webs, [(9, 9, 99)] * count)
        for ear in (5, -1, 10 ** 30):
            self.refused(NoEar, {"ear": ear}, linked_web, webs, [(ear, 99, 0, 0)])
            self.refused(NoEar, {"ear": ear}, linked_web, webs, [(0, ear, 0, 0)])
        self.refused(BadLink, {"index": 0}, linked_web, webs, [(1, 1, 0, 0)])
        self.refused(BadLink, {"index": 1}, linked_web, webs, [(0, 4, 1), (4, 2, 0, 0)])
        self.refused(BadLink, {"index": 1}, linked_web, webs, [(0, 4, 1), (2, 0, 0, 0)])
        self.refused(BadLink, {"index": 2}, linked_web, webs, [(0, 4, 1), (1, 3, 1), (2, 2, 1)])
        for length in (0, 13, -1, 10 ** 30):
            self.refused(BadLength, {"length": length}, linked_web, webs, [(0, 1, length, 0), (9, 9, 9)])
        for twist in (0, 2, -2):
            self.refused(BadTwist, {"twist": twist}, linked_web, webs, [(0, 1, 1, twist)])
        for ear, other in ((0, 1), (1, 2), (2, 4)):
            self.refused(Mismatch, {}, linked_web, webs, [(ear, other, 1), (99, 0, 1)])
        self.refused(NoEar, {"ear": 0}, linked_web, [Web()], [(0, 0, 1)])
        self.refused(NoEar, {"ear": 2}, linked_web, [Web(["level"], [], [(0, 1), (0, 2)])], [(0, 2, 1), (0, 1, 1)])

    def test_too_many(self):
        joints = Web(["level"] * 5, [(0, 0, 1, 1)] * 5, [(0, 1)] * 4)
        self.refused(BadCount, {"count": 10}, linked_web, [joints, joints], [(0, 4, 12)])
        self.refused(Mismatch, {}, linked_web, [joints, joints, re_eared(joints, 0, 2)], [(0, 4, 1), (1, 8, 1)])
        rods = Web(["level"], [(0, 0, 1, 1)] * 4, [(0, 1)] * 4)
        self.refused(BadCount, {"count": 9}, linked_web, [rods, rods], [(0, 4, 12)])
        cells = Web(["level"], [(0, 0, 5, 1)], [(0, 1)] * 4)
        self.refused(TooLarge, {"size": 26}, linked_web, [cells, cells], [(0, 4, 3)])
        self.assertEqual(linked_web([cells, cells], [(0, 4, 1), (1, 5, 1)]).cells, 24)
        self.refused(BadCount, {"count": 6}, linked_web, [cells, cells], [(0, 4, 1)])
        self.refused(BadCount, {"count": 16}, linked_web, [Web(["level"], [], [(0, 1)] * 4)] * 4, [])
        ears = Web(["level"] * 2, [], [(0, 1)] * 4)
        made = linked_web([ears] * 4, [(k, 8 + k, 1) for k in range(8)])
        self.assertEqual((len(made.joints), len(made.rods), made.cells, made.ears), (8, 8, 16, 0))
        made = linked_web([ears] * 4, [(k, 15 - k, 2) for k in range(6)])
        self.assertEqual((len(made.rods), made.cells, made.ears), (6, 24, 4))

    def test_cut_takes_it_back(self):
        draw = source(1190)
        some = 0
        for told in told_webs(draw, 20):
            for rod in range(len(told.rods)):
                if len(told.ears) <= 2:
                    web, ears = web_of(told), len(told.ears)
                    link = (ears, ears + 1, told.rods[rod][2], told.rods[rod][4])
                    made = linked_web([cut(web, rod)], [link])
                    rods = list(web.rods)
                    rods.append(rods.pop(rod))
                    self.assertEqual(made, Web(web.joints, rods, web.ear_list))
                    some += 1
        self.assertGreater(some, 15)


class Cuts(Looks, unittest.TestCase):
    def test_known(self):
        web = Web(["level", "stream"], [(0, 1, 1, 2, -1), (1, 0, 3, HALF), (1, 1, 1, 7)], [(0, 1)])
        self.assertEqual(cut(web, 0), Web(web.joints, web.rods[1:], [(0, 1), (0, 2), (1, 2)]))
        self.assertEqual(cut(web, 1), Web(web.joints, [web.rods[0], web.rods[2]], [(0, 1), (1, HALF), (0, HALF)]))
        self.assertEqual(cut(web, 2), Web(web.joints, web.rods[:2], [(0, 1), (1, 7), (1, 7)]))

    def test_refused(self):
        web = Web(["level"], [(0, 0, 1, 1)], [(0, 1)] * 3)
        for rod in (1, -1, 10 ** 30):
            self.refused(NoRod, {"rod": rod}, cut, web, rod)
        self.refused(BadCount, {"count": 5}, cut, web, 0)
        self.refused(BadCount, {"count": 6}, cut, with_ear(web, 0, 1), 0)
        self.assertEqual(cut(Web(["level"], [(0, 0, 1, 1)], [(0, 1)] * 2), 0).ears, 4)


class Closing(Looks, unittest.TestCase):
    def test_known(self):
        self.assertEqual(closed(ONE, 1, "level"), Web(
            ["level", "stream", "level"], [(0, 1, 1, 2, -1), (1, 2, 1, HALF)], [(0, 1), (0, 3)]))
        self.assertEqual(closed(ONE, 2, "stream", length=11), Web(
            ["level", "stream", "stream"], [(0, 1, 1, 2, -1), (0, 2, 11, 3)], [(0, 1), (1, HALF)]))
        self.assertEqual(closed(Web(["level"], [], [(0, 1)]), 0, "level", length=12).cells, 24)

    def test_refused(self):
        for ear in (3, -1, 10 ** 30):
            self.refused(NoEar, {"ear": ear}, closed, ONE, ear, "wrong", length=0)
        for kind in ("", "wrong", "Level"):
            self.refused(BadKind, {"kind": kind}, closed, ONE, 0, kind, length=0)
        for length in (0, 13, -1):
            self.refused(BadLength, {"length": length}, closed, ONE, 0, "level", length=length)
        full = Web(["level"] * 8, [(0, 0, 1, 1)] * 8, [(0, 1)])
        self.refused(BadCount, {"count": 9}, closed, full, 0, "level", length=12)
        self.refused(BadLength, {"length": 13}, closed, full, 0, "level", length=13)
        self.refused(BadKind, {"kind": "no"}, closed, full, 0, "no", length=13)
        rods = Web(["level"], [(0, 0, 1, 1)] * 8, [(0, 1)])
        self.refused(BadCount, {"count": 9}, closed, rods, 0, "level", length=12)
        self.refused(TooLarge, {"size": 26}, closed, ONE, 0, "level", length=12)
        self.assertEqual(closed(ONE, 0, "level", length=11).cells, 24)


class Behind(Looks, unittest.TestCase):
    def test_known(self):
        web = Web(["level", "stream"], [(0, 1, 1, 2, -1)], [(1, 3)])
        self.assertEqual(behind(web, 2, HALF), Web(
            ["level", "stream", "level"], [(0, 1, 1, 2, -1), (2, 1, 2, HALF)], [(2, 3)]))
        self.assertEqual(behind(Web(["stream"], [], [(0, 3)]), 12, 3).rods, ((1, 0, 12, 3, 1),))

    def test_panes(self):
        draw = source(1200)
        some = 0
        for told in told_webs(draw, 50):
            length = draw.randint(1, 3)
            if len(told.ears) == 1 and told.cells + 2 * length <= 24 and len(told.joints) < 8:
                strength = some_strength(draw)
                web = web_of(told)
                first = (told.ears[0][1] - strength) / (told.ears[0][1] + strength)
                rest = pile_of(re_eared(web, 0, frac(strength)))
                pile = pile_of(behind(web, length, frac(strength)))
                self.assertEqual(exact(pile.panes), [first] + [0] * (2 * length - 1) + exact(rest.panes))
                self.assertEqual((pile.end, exact(pile.strengths)), (rest.end, [told.ears[0][1]]))
                some += 1
        self.assertGreater(some, 8)

    def test_plays(self):
        """What is knocked comes to the old joint through the new rod, at its strength."""
        draw = source(1201)
        told = some_told(draw, 3, 2, 1, 2)
        web = behind(web_of(told), 1, frac(told.ears[0][1]))
        state, number = some_state(draw, told.cells + 2), Fraction(5, 3)
        new, heard = web.tick(fracs(state), [frac(number)])
        ahead, told_heard = told.tick(state[:-2], [state[-2]])
        self.same(new, ahead + [number, told_heard[0]])
        self.same(heard, [state[-1]])

    def test_refused(self):
        for web in (Web(), web_of(TOLD), ONE):
            self.refused(BadCount, {"count": web.ears}, behind, web, 0, 0)
        ear = Web(["level"], [], [(0, 1)])
        for length in (0, 13, -1):
            self.refused(BadLength, {"length": length}, behind, ear, length, 0)
        for strength in (0, -1, Frac(-1, 2)):
            error = self.refused(BadStrength, {"strength": strength}, behind, ear, 1, strength)
            self.assertIs(error.strength, strength)
        full = Web(["level"] * 8, [(0, 0, 1, 1)] * 8, [(0, 1)])
        self.refused(BadCount, {"count": 9}, behind, full, 12, 1)
        self.refused(BadStrength, {"strength": 0}, behind, full, 12, 0)
        self.refused(BadLength, {"length": 13}, behind, full, 13, 0)
        rods = Web(["level"], [(0, 0, 1, 1)] * 8, [(0, 1)])
        self.refused(BadCount, {"count": 9}, behind, rods, 12, 1)
        self.refused(TooLarge, {"size": 26}, behind, Web(["level"], [(0, 0, 1, 1)], [(0, 1)]), 12, 1)

    def test_nothing_changes(self):
        web, links = Web(["level"], [(0, 0, 1, 1)], [(0, 1)]), [(0, 1, 1)]
        webs = [web, web]
        linked_web(webs, links)
        cut(web, 0)
        closed(web, 0, "level")
        behind(web, 1, 1)
        self.assertEqual((webs[0], links), (Web(["level"], [(0, 0, 1, 1)], [(0, 1)]), [(0, 1, 1)]))
        self.assertIs(webs[1], web)


class OfPiles(Looks, unittest.TestCase):
    def test_closed_webs_hang_together(self):
        """A web of a pile, closed, has no ears."""
        web = Pile([HALF, 0], strength=3).as_web()
        made = closed(web, 0, "level", length=2)
        self.assertEqual((made.ears, made.cells), (0, 8))


if __name__ == "__main__":
    unittest.main()
