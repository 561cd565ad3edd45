"""Points 73 to 76, with points 7 to 14: Web."""

import unittest
from fractions import Fraction

from rodwebs.errors import (
    BadCount, BadKind, BadLength, BadSizes, BadStrength, BadTwist, NoJoint, NoRod, TooLarge,
)
from rodwebs.fracs import Frac
from rodwebs.webs import Web
from tests.helpers import Looks, exact, fracs, source
from tests.told import some_state, told_webs

TWO = ["level", "stream"]


class Making(Looks, unittest.TestCase):
    def test_attributes(self):
        web = Web(["level", "stream"], [(0, 1, 2, 3), [1, 1, 1, Frac(2, 4), -1], (1, 0, 1, Frac(5), 1)],
                  ((1, 2), [0, Frac(1, 3)]))
        self.assertEqual(web.joints, ("level", "stream"))
        self.assertEqual(web.rods, ((0, 1, 2, Frac(3), 1), (1, 1, 1, Frac(1, 2), -1), (1, 0, 1, Frac(5), 1)))
        self.assertEqual(web.ear_list, ((1, Frac(2)), (0, Frac(1, 3))))
        self.assertEqual((web.cells, web.ears), (8, 2))
        self.same(web.strengths, [2, Fraction(1, 3)])
        for rod in web.rods:
            self.assertIs(type(rod), tuple)
            self.assertEqual([type(part) for part in rod], [int, int, int, Frac, int])
        for ear in web.ear_list:
            self.assertIs(type(ear), tuple)
            self.assertEqual([type(part) for part in ear], [int, Frac])
        self.assertEqual([type(web.joints), type(web.rods), type(web.ear_list)], [tuple] * 3)

    def test_left_out(self):
        for web in (Web(), Web([]), Web((), [], ()), Web(joints=(), rods=(), ears=())):
            self.assertEqual((web.joints, web.rods, web.ear_list, web.cells, web.ears), ((), (), (), 0, 0))
        self.assertEqual(Web(["level"], ears=[(0, 1)]).ear_list, ((0, Frac(1)),))

    def test_class_values(self):
        self.assertEqual((Web.MOST_JOINTS, Web.MOST_RODS, Web.MOST_EARS, Web.MOST_CELLS), (8, 8, 4, 24))

    def test_bounds(self):
        web = Web(["level"] * 8, [(k, 7 - k, 1, 1) for k in range(7)] + [(0, 0, 5, 1)], [(k, 1) for k in range(4)])
        self.assertEqual((len(web.joints), len(web.rods), web.cells, web.ears), (8, 8, 24, 4))
        self.assertEqual(Web(TWO, [(0, 1, 12, 1)]).cells, 24)
        self.assertEqual(Web(TWO, [(0, 1, 1, 1)]).cells, 2)

    def test_joints_refused(self):
        self.refused(BadCount, {"count": 9}, Web, ["level"] * 9)
        self.refused(BadCount, {"count": 9}, Web, ["wrong"] * 9)
        self.refused(BadKind, {"kind": "wrong"}, Web, ["level", "wrong", "other"])
        self.refused(BadKind, {"kind": ""}, Web, [""])

    def test_rods_refused(self):
        good = (0, 1, 1, 1)
        self.refused(BadCount, {"count": 9}, Web, TWO, [(7, 7, 0, 0, 0)] * 9)
        for joint in (2, -1, 10 ** 30, -10 ** 30):
            self.refused(NoJoint, {"joint": joint}, Web, TWO, [good, (joint, 9, 0, 0, 0)])
            self.refused(NoJoint, {"joint": joint}, Web, TWO, [good, (0, joint, 0, 0, 0)])
        for length in (0, 13, -1, 10 ** 30):
            self.refused(BadLength, {"length": length}, Web, TWO, [good, (0, 1, length, 0, 0)])
        for strength in (0, -1, Frac(0), Frac(-1, 3)):
            error = self.refused(BadStrength, {"strength": strength}, Web, TWO, [good, (0, 1, 12, strength, 0)])
            self.assertIs(error.strength, strength)
        for twist in (0, 2, -2, 10 ** 30):
            self.refused(BadTwist, {"twist": twist}, Web, TWO, [good, (0, 1, 12, 1, twist), (5, 5, 5, 5)])
        self.refused(NoJoint, {"joint": 0}, Web, [], [(0, 0, 1, 1)])

    def test_rod_by_rod(self):
        self.refused(BadTwist, {"twist": 3}, Web, TWO, [(0, 1, 1, 1, 3), (9, 1, 1, 1)])
        self.refused(BadStrength, {"strength": 0}, Web, TWO, [(0, 1, 1, 0), (0, 1, 99, 1)])

    def test_cells_refused(self):
        self.refused(TooLarge, {"size": 26}, Web, TWO, [(0, 1, 12, 1), (0, 1, 1, 1)])
        self.refused(TooLarge, {"size": 192}, Web, TWO, [(0, 1, 12, 1)] * 8)
        self.refused(BadTwist, {"twist": 0}, Web, TWO, [(0, 1, 12, 1), (0, 1, 12, 1, 0)])
        self.refused(TooLarge, {"size": 48}, Web, TWO, [(0, 1, 12, 1), (0, 1, 12, 1)], [(9, 9)])

    def test_ears_refused(self):
        self.refused(BadCount, {"count": 5}, Web, TWO, [], [(9, 0)] * 5)
        for joint in (2, -1, 10 ** 30):
            self.refused(NoJoint, {"joint": joint}, Web, TWO, [], [(0, 1), (joint, 0)])
        for strength in (0, -3, Frac(-1, 7)):
            error = self.refused(BadStrength, {"strength": strength}, Web, TWO, [], [(1, 1), (0, strength), (5, 1)])
            self.assertIs(error.strength, strength)

    def test_order_of_parameters(self):
        self.refused(BadKind, {"kind": "x"}, Web, ["x"], [(5, 5, 5, 5)] * 9, [(9, 0)] * 5)
        self.refused(NoJoint, {"joint": 5}, Web, TWO, [(5, 5, 5, 5)], [(9, 0)] * 5)

    def test_copies(self):
        joints, rods, ears = ["level", "level"], [[0, 1, 1, 1]], [[0, 1]]
        web = Web(joints, rods, ears)
        joints[0] = "stream"
        rods[0][2] = 9
        rods.append((0, 1, 1, 1))
        ears[0][0] = 1
        ears.clear()
        self.assertEqual(web, Web(["level", "level"], [(0, 1, 1, 1)], [(0, 1)]))
        self.assertEqual(web.cells, 2)

    def test_level_and_plain(self):
        for joints, rods, level, plain in [([], [], True, True), (["level"], [], True, True),
                                           (["level", "stream"], [], False, False),
                                           (["level"], [(0, 0, 1, 1)], True, True),
                                           (["level"], [(0, 0, 1, 1), (0, 0, 1, 1, -1)], True, False),
                                           (["stream"], [(0, 0, 1, 1, -1)], False, False),
                                           (["stream"], [(0, 0, 1, 1)], False, False)]:
            web = Web(joints, rods)
            self.truth(web.level, level)
            self.truth(web.plain, plain)

    def test_equal(self):
        web = Web(TWO, [(0, 1, 1, 2)], [(0, 1), (1, 1)])
        self.truth(web == Web(("level", "stream"), [[0, 1, 1, Frac(4, 2), 1]], ((0, Frac(1)), [1, 1])), True)
        self.truth(web != Web(("level", "stream"), [[0, 1, 1, Frac(4, 2), 1]], ((0, Frac(1)), [1, 1])), False)
        for other in (Web(["level", "level"], [(0, 1, 1, 2)], [(0, 1), (1, 1)]),
                      Web(TWO, [(1, 0, 1, 2)], [(0, 1), (1, 1)]), Web(TWO, [(0, 1, 2, 2)], [(0, 1), (1, 1)]),
                      Web(TWO, [(0, 1, 1, 3)], [(0, 1), (1, 1)]), Web(TWO, [(0, 1, 1, 2, -1)], [(0, 1), (1, 1)]),
                      Web(TWO, [(0, 1, 1, 2)], [(1, 1), (0, 1)]), Web(TWO, [(0, 1, 1, 2)], [(0, 1)]),
                      Web(TWO, [(0, 1, 1, 2)], [(0, 1), (1, 2)]), "web", None, web.rods):
            self.truth(web == other, False)
            self.truth(web != other, True)


class Playing(Looks, unittest.TestCase):
    def test_tick(self):
        draw = source(10)
        for told in told_webs(draw, 40):
            web = Web(*told.passed())
            state, knocks = some_state(draw, told.cells), some_state(draw, len(told.ears))
            given = web.tick(fracs(state), tuple(fracs(knocks)))
            self.assertIs(type(given), tuple)
            self.assertEqual([type(part) for part in given], [list, list])
            new, heard = told.tick(state, knocks)
            self.same(given[0], new)
            self.same(given[1], heard)

    def test_several_ticks(self):
        draw = source(11)
        for told in told_webs(draw, 10):
            web = Web(*told.passed())
            state, new = some_state(draw, told.cells), None
            new = fracs(state)
            for _ in range(8):
                knocks = some_state(draw, len(told.ears))
                new, heard = web.tick(new, fracs(knocks))
                state, wanted = told.tick(state, knocks)
                self.same(new, state)
                self.same(heard, wanted)

    def test_energy_is_kept(self):
        draw = source(12)
        for told in told_webs(draw, 20):
            web = Web(*told.passed())
            state, knocks = fracs(some_state(draw, told.cells)), fracs(some_state(draw, len(told.ears)))
            new, heard = web.tick(state, knocks)
            inside = told.product(exact(new), exact(new)) + told.heard_energy(exact(heard))
            self.assertEqual(inside, told.product(exact(state), exact(state)) + told.heard_energy(exact(knocks)))
            self.assertEqual(web.energy(new) + web.ear_energy(heard), web.energy(state) + web.ear_energy(knocks))

    def test_flip(self):
        draw = source(13)
        for told in told_webs(draw, 20):
            web = Web(*told.passed())
            state, knocks = some_state(draw, told.cells), some_state(draw, len(told.ears))
            flipped = web.flip(fracs(state))
            self.assertIs(type(flipped), list)
            self.same(flipped, told.flip(state))
            self.same(web.flip(flipped), state)
            new, heard = web.tick(fracs(state), fracs(knocks))
            after, again = web.tick(web.flip(new), heard)
            self.same(after, told.flip(state))
            self.same(again, knocks)

    def test_back(self):
        draw = source(14)
        for told in told_webs(draw, 30):
            web = Web(*told.passed())
            state, knocks = some_state(draw, told.cells), some_state(draw, len(told.ears))
            new, heard = told.tick(state, knocks)
            given = web.back(fracs(new), tuple(fracs(heard)))
            self.assertIs(type(given), tuple)
            self.assertEqual([type(part) for part in given], [list, list])
            self.same(given[0], state)
            self.same(given[1], knocks)

    def test_product(self):
        draw = source(15)
        for told in told_webs(draw, 15):
            web = Web(*told.passed())
            first, second = some_state(draw, told.cells), some_state(draw, told.cells)
            self.one(web.product(fracs(first), tuple(fracs(second))), told.product(first, second))

    def test_commons(self):
        draw = source(16)
        for told in told_webs(draw, 20):
            web = Web(*told.passed())
            state, knocks = some_state(draw, told.cells), some_state(draw, len(told.ears))
            given = web.commons(fracs(state), fracs(knocks))
            self.assertIs(type(given), list)
            self.same(given, told.commons(state, knocks))

    def test_cells_of_a_rod(self):
        draw = source(17)
        for told in told_webs(draw, 10):
            web = Web(*told.passed())
            state = some_state(draw, told.cells)
            for rod, (forth, backs) in enumerate(told.split(state)):
                self.assertEqual([type(web.forth(fracs(state), rod)), type(web.backs(fracs(state), rod))], [list] * 2)
                self.same(web.forth(fracs(state), rod), forth)
                self.same(web.backs(tuple(fracs(state)), rod), backs)

    def test_arms(self):
        draw = source(18)
        for told in told_webs(draw, 15):
            web = Web(*told.passed())
            for joint in range(len(told.joints)):
                self.assertIs(type(web.arms(joint)), tuple)
                self.assertEqual(web.arms(joint), tuple(told.joint_arms(joint)))
        web = Web(TWO, [(0, 0, 1, 1), (1, 0, 1, 1), (0, 1, 1, 1)], [(1, 1), (0, 1), (0, 2)])
        self.assertEqual(web.arms(0), (("start", 0), ("end", 0), ("end", 1), ("start", 2), ("ear", 1), ("ear", 2)))
        self.assertEqual(web.arms(1), (("start", 1), ("end", 2), ("ear", 0)))
        self.assertEqual(Web(["level"]).arms(0), ())

    def test_joint_without_arms(self):
        web = Web(["level", "stream"], [], [(1, 5)])
        self.same(web.commons([], [3]), [0, 30])
        state, heard = web.tick([], [3])
        self.assertEqual(state, [])
        self.same(heard, [-3])
        self.same(Web(["level"], [], [(0, 2)]).tick([], [Frac(1, 2)])[1], [Fraction(1, 2)])
        self.assertEqual(Web().tick([], []), ([], []))
        self.assertEqual(Web().back([], []), ([], []))
        self.assertEqual(Web().commons([], []), [])

    def test_integers_are_numbers(self):
        web = Web(TWO, [(0, 1, 2, 1)], [(0, 1)])
        state = [1, Frac(2), 3, 4]
        for given in (web.tick(state, [1]), web.back(state, (1,))):
            self.all_fracs(given)
        self.all_fracs([web.flip(state), web.forth(state, 0), web.backs(state, 0), web.commons(state, [1])])
        self.assertEqual([type(number) for number in state], [int, Frac, int, int])

    def test_arguments_stay(self):
        web = Web(TWO, [(0, 1, 2, 1, -1)], [(0, 1)])
        state, knocks = [1, 2, 3, 4], [5]
        for call in (web.tick, web.back, web.commons):
            call(state, knocks)
        web.product(state, state)
        web.flip(state)[0] = 9
        web.forth(state, 0)[0] = 9
        self.assertEqual((state, knocks), ([1, 2, 3, 4], [5]))
        self.same(web.forth(state, 0), [1, 2])

    def test_refused(self):
        web = Web(TWO, [(0, 1, 2, 1)], [(0, 1)])
        for given in (0, 3, 5):
            state = [1] * given
            self.refused(BadSizes, {"given": given, "wanted": 4}, web.flip, state)
            self.refused(BadSizes, {"given": given, "wanted": 4}, web.commons, state, [])
            self.refused(BadSizes, {"given": given, "wanted": 4}, web.forth, state, 7)
            self.refused(BadSizes, {"given": given, "wanted": 4}, web.backs, state, 7)
        self.refused(BadSizes, {"given": 2, "wanted": 1}, web.commons, [0] * 4, [0] * 2)
        for number in (1, -1, 10 ** 30):
            self.refused(NoRod, {"rod": number}, web.forth, [0] * 4, number)
            self.refused(NoRod, {"rod": number}, web.backs, [0] * 4, number)
        for number in (2, -1, -10 ** 30):
            self.refused(NoJoint, {"joint": number}, web.arms, number)
        self.refused(NoJoint, {"joint": 0}, Web().arms, 0)
        self.refused(NoRod, {"rod": 0}, Web().forth, [], 0)
        for call in (Web(["level"]).flip, Web().flip):
            self.refused(BadSizes, {"given": 1, "wanted": 0}, call, [1])


class Lines(Looks, unittest.TestCase):
    def test_line(self):
        web = Web.line([1, Frac(1, 2), 3], ear=Frac(2, 3), end="stream")
        self.assertIs(type(web), Web)
        self.assertEqual(web, Web(["level", "level", "level", "stream"],
                                  [(0, 1, 1, 1), (1, 2, 1, Frac(1, 2)), (2, 3, 1, 3)], [(0, Frac(2, 3))]))
        self.assertEqual(Web.line((5,)), Web(["level", "level"], [(0, 1, 1, 5)], [(0, 1)]))
        self.assertEqual(Web.line([1] * 7).cells, 14)

    def test_without_strengths(self):
        self.assertEqual(Web.line([]), Web(["level"], [], [(0, 1)]))
        self.assertEqual(Web.line((), end="stream", ear=4), Web(["stream"], [], [(0, 4)]))

    def test_refused(self):
        self.refused(BadCount, {"count": 9}, Web.line, [0] * 8, ear=0, end="x")
        self.refused(BadCount, {"count": 10}, Web.line, [1] * 9)
        self.refused(BadKind, {"kind": "x"}, Web.line, [0, -1], ear=0, end="x")
        self.refused(BadKind, {"kind": "x"}, Web.line, [], end="x")
        self.refused(BadStrength, {"strength": -1}, Web.line, [1, -1, 0], ear=0)
        self.refused(BadStrength, {"strength": 0}, Web.line, [1, 2], ear=0)
        self.refused(BadStrength, {"strength": Frac(-1, 2)}, Web.line, [], ear=Frac(-1, 2))


class Known(Looks, unittest.TestCase):
    def test_example(self):
        """The last example of point 129: a tick, and the tick taken back."""
        web = Web(["level", "stream"], [(0, 1, 1, 2)], [(0, 1)])
        state, heard = web.tick([0, 3], [1])
        self.assertEqual([[str(x) for x in state], [str(x) for x in heard]], [["5/3", "0"], ["11/3"]])
        old, knocks = web.back(state, heard)
        self.assertEqual([[str(x) for x in old], [str(x) for x in knocks]], [["0", "3"], ["1"]])

    def test_first_echoes(self):
        """The numbers of the first example of point 129, heard tick by tick."""
        web = Web(["level", "level"], [(0, 1, 1, 1)], [(0, 3)])
        state, knocks, told = web.rest(), [1], []
        for _ in range(5):
            state, heard = web.tick(state, knocks)
            told.append(str(heard[0]))
            knocks = [0]
        self.assertEqual(told, ["1/2", "0", "3/4", "0", "-3/8"])

    def test_sixty_digits(self):
        most = 10 ** 60 - 1
        web = Web(["level", "stream"], [(0, 1, 1, Frac(most, most - 2), -1)], [(0, Frac(1, most))])
        state, knocks = [Frac(1, most), Frac(-most)], [Frac(most - 4, 7)]
        old, told = web.back(*web.tick(state, knocks))
        self.assertEqual((old, told), (state, knocks))


if __name__ == "__main__":
    unittest.main()
