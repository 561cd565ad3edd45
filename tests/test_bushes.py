"""Point 102, with point 31: Bush, LevelBush, StreamBush, bushes_alike."""

import unittest
from fractions import Fraction

from rodwebs.answers import answer, resistance
from rodwebs.bushes import Bush, LevelBush, StreamBush, bushes_alike
from rodwebs.errors import BadCount, BadLength, BadStrength, TooLarge
from rodwebs.fracs import Frac
from rodwebs.heardparts import heard_space
from rodwebs.piles import Pile
from rodwebs.powers import Powers
from rodwebs.runs import echo
from rodwebs.webs import Web
from tests.helpers import Looks, frac, source
from tests.told import some_strength

HALF = Frac(1, 2)
LEAF = LevelBush()
CUP = StreamBush()


class ToldBush:
    """A bush that the tests build by themselves: (kind, branches with (length, strength, ToldBush))."""

    def __init__(self, kind, branches=()):
        self.kind, self.branches = kind, list(branches)

    def made(self):
        heir = LevelBush if self.kind == "level" else StreamBush
        return heir(*((length, frac(strength), bush.made()) for length, strength, bush in self.branches))

    def shape(self):
        joints, rods = [self.kind], []
        for length, strength, bush in self.branches:
            first = len(joints)
            inner, further = bush.shape()
            rods += [(0, first, length, strength)] + [(first + a, first + b, n, z) for a, b, n, z in further]
            joints += inner
        return joints, rods

    def web(self, strength=1):
        joints, rods = self.shape()
        return Web(joints, [(a, b, n, frac(z)) for a, b, n, z in rods], [(0, frac(strength))])


def some_bush(draw, joints, most=2):
    """A bush with so many joints."""
    branches, left = [], joints - 1
    while left:
        part = draw.randint(1, left)
        branches.append((draw.randint(1, most), some_strength(draw, 4), some_bush(draw, part, most)))
        left -= part
    return ToldBush(draw.choice(["level", "stream"]), branches)


def some_bushes(draw, count=12):
    for joints, most in ((1, 2), (2, 5), (3, 4), (4, 3), (5, 3), (6, 2), (8, 1)):
        for _ in range(count // 6):
            yield some_bush(draw, joints, most)


class Making(Looks, unittest.TestCase):
    def test_classes(self):
        self.assertEqual((LevelBush.__bases__, StreamBush.__bases__), ((Bush,), (Bush,)))
        for heir in (LevelBush, StreamBush):
            self.assertTrue({"as_web", "echo"} <= set(vars(heir)))
        self.assertIn("as_pile", vars(Bush))

    def test_attributes(self):
        bush = LevelBush([2, 3, CUP], (1, HALF, StreamBush((1, 1, LEAF))))
        self.assertIs(type(bush.branches), tuple)
        self.assertEqual([type(branch) for branch in bush.branches], [tuple, tuple])
        self.assertEqual([type(part) for part in bush.branches[0][:2]], [int, Frac])
        self.assertIs(bush.branches[0][2], CUP)
        self.assertEqual(bush.branches[1], (1, HALF, StreamBush((1, 1, LEAF))))
        self.assertEqual((bush.joint_count, bush.cell_count), (4, 8))
        self.assertEqual((LEAF.branches, LEAF.joint_count, LEAF.cell_count), ((), 1, 0))

    def test_counts(self):
        draw = source(1020)
        for told in some_bushes(draw):
            bush, web = told.made(), told.web()
            self.assertEqual((bush.joint_count, bush.cell_count), (len(web.joints), web.cells))
            self.assertEqual((type(bush.joint_count), type(bush.cell_count)), (int, int))

    def test_bounds(self):
        self.assertEqual(LevelBush(*[(1, 1, LEAF)] * 7).joint_count, 8)
        self.assertEqual(StreamBush((12, 1, LEAF)).cell_count, 24)
        self.assertEqual(LevelBush((5, 1, LEAF), (7, 1, LEAF)).cell_count, 24)
        five = LevelBush(*[(1, 1, LEAF)] * 4)
        self.assertEqual(StreamBush((1, 1, five), (1, 1, StreamBush((1, 1, LEAF)))).joint_count, 8)

    def test_refused(self):
        for heir in (LevelBush, StreamBush):
            for length in (0, 13, -1, 10 ** 30):
                self.refused(BadLength, {"length": length}, heir, (1, 1, LEAF), (length, 0, LEAF), (99, 0, LEAF))
            for strength in (0, -1, Frac(-1, 2)):
                error = self.refused(BadStrength, {"strength": strength}, heir, (1, strength, LEAF), (0, 1, LEAF))
                self.assertIs(error.strength, strength)
            self.refused(BadLength, {"length": 0}, heir, *[(12, 1, LEAF)] * 8, (0, 1, LEAF))
            self.refused(TooLarge, {"size": 9}, heir, *[(12, 1, LEAF)] * 8)
            self.refused(TooLarge, {"size": 26}, heir, (12, 1, LEAF), (1, 1, LEAF))
            self.refused(TooLarge, {"size": 26}, heir, (1, 1, StreamBush((12, 1, LEAF))))
            self.refused(TooLarge, {"size": 9}, heir, (1, 1, LevelBush(*[(1, 1, LEAF)] * 7)))

    def test_equal(self):
        bush = LevelBush((1, HALF, CUP), (2, 3, LEAF))
        self.truth(bush == LevelBush([1, Frac(2, 4), StreamBush()], (2, Frac(3), LevelBush())), True)
        self.truth(bush != LevelBush([1, Frac(2, 4), StreamBush()], (2, Frac(3), LevelBush())), False)
        for other in (StreamBush((1, HALF, CUP), (2, 3, LEAF)), LevelBush((2, 3, LEAF), (1, HALF, CUP)),
                      LevelBush((1, HALF, CUP)), LevelBush((1, HALF, LEAF), (2, 3, LEAF)),
                      LevelBush((1, 1, CUP), (2, 3, LEAF)), LevelBush((1, HALF, CUP), (3, 3, LEAF)), LEAF, CUP,
                      bush.branches, None):
            self.truth(bush == other, False)
            self.truth(bush != other, True)
        self.truth(LEAF == LevelBush(), True)
        self.truth(CUP == StreamBush(), True)
        self.truth(LEAF == CUP, False)

    def test_copies(self):
        branch = [1, 2, LEAF]
        bush = LevelBush(branch)
        branch[0] = 9
        branch.clear()
        self.assertEqual(bush, LevelBush((1, 2, LEAF)))


class Webs(Looks, unittest.TestCase):
    def test_webs(self):
        draw = source(1021)
        for told in some_bushes(draw):
            strength = some_strength(draw)
            web = told.made().as_web(strength=frac(strength))
            self.assertIs(type(web), Web)
            self.assertEqual(web, told.web(strength))
            self.assertEqual(told.made().as_web(), told.web())

    def test_known(self):
        inner = StreamBush((3, 4, LEAF), (1, 5, CUP))
        bush = LevelBush((2, 3, inner), (1, HALF, LEAF))
        self.assertEqual(bush.as_web(strength=7), Web(
            ["level", "stream", "level", "stream", "level"],
            [(0, 1, 2, 3), (1, 2, 3, 4), (1, 3, 1, 5), (0, 4, 1, HALF)], [(0, 7)]))
        self.assertEqual(LEAF.as_web(), Web(["level"], [], [(0, 1)]))
        self.assertEqual(CUP.as_web(strength=HALF), Web(["stream"], [], [(0, HALF)]))

    def test_refused(self):
        for bush in (LEAF, CUP, LevelBush((1, 1, CUP))):
            for strength in (0, -1, Frac(-1, 2)):
                for call in (bush.as_web, bush.as_pile, lambda strength: bush.echo(3, strength=strength)):
                    error = self.refused(BadStrength, {"strength": strength}, call, strength=strength)
                    self.assertIs(error.strength, strength)


class Sounds(Looks, unittest.TestCase):
    def test_echoes(self):
        draw = source(1022)
        for told in some_bushes(draw):
            strength = some_strength(draw)
            given = told.made().echo(11, strength=frac(strength))
            self.assertIs(type(given), list)
            self.all_fracs(given)
            self.assertEqual(given, echo(told.web(strength), 11))
            self.assertEqual(told.made().echo(6), echo(told.web(), 6))

    def test_counts(self):
        bush = LevelBush((1, 2, CUP))
        for one in (bush, StreamBush((1, 2, LEAF)), LEAF, CUP):
            self.assertEqual(one.echo(0), [])
            self.assertEqual(len(one.echo(100)), 100)
            for count in (-1, 101, 10 ** 30):
                self.refused(BadCount, {"count": count}, one.echo, count, strength=0)
        self.assertEqual(bush.echo(100), echo(bush.as_web(), 100))
        self.same(LEAF.echo(3), [1, 0, 0])
        self.same(CUP.echo(3, strength=5), [-1, 0, 0])

    def test_piles(self):
        draw = source(1023)
        for told in some_bushes(draw):
            strength = some_strength(draw)
            pile = told.made().as_pile(strength=frac(strength))
            self.assertIs(type(pile), Pile)
            self.same(pile.strengths, [strength])
            self.assertEqual(pile.echo(20), echo(told.web(strength), 20))
            self.assertEqual(len(pile), len(heard_space(told.web())))
        self.assertEqual(LevelBush((1, 1, LEAF)).as_pile(strength=3), Pile([HALF, 0], strength=3))
        self.assertEqual(CUP.as_pile(), Pile([], end=-1))

    def test_answers_of_branches(self):
        draw = source(1024)
        for told in some_bushes(draw):
            if told.branches:
                sums = Powers([0] * 9)
                for length, strength, bush in told.branches:
                    late = Powers(echo(bush.web(strength), 9)).delayed(2 * length)
                    of_branch = frac(strength) * (1 - late) // (1 + late)
                    sums = sums + (of_branch if told.kind == "level" else Powers([1] + [0] * 8) // of_branch)
                self.assertEqual((answer if told.kind == "level" else resistance)(told.web(), 9), sums)

    def test_alike(self):
        draw = source(1025)
        bushes = list(some_bushes(draw))
        for one in bushes:
            for other in (one, *bushes[::3]):
                count = max(one.web().cells, other.web().cells) + 1
                wanted = echo(one.web(), count) == echo(other.web(), count)
                self.truth(bushes_alike(one.made(), other.made()), wanted)

    def test_alike_but_not_equal(self):
        two, one = LevelBush((1, 1, LEAF), (1, 1, LEAF)), LevelBush((1, 2, LEAF))
        self.truth(bushes_alike(two, one), True)
        self.truth(bushes_alike(one, two), True)
        self.truth(two == one, False)
        self.truth(bushes_alike(StreamBush((1, 1, LEAF), (1, 1, LEAF)), StreamBush((1, HALF, LEAF))), True)
        self.truth(bushes_alike(StreamBush((1, 1, LEAF)), LevelBush((1, 1, LEAF))), True)
        self.truth(bushes_alike(one, LevelBush((1, 3, LEAF))), False)
        self.truth(bushes_alike(LEAF, CUP), False)
        self.truth(bushes_alike(LEAF, LevelBush()), True)
        self.truth(bushes_alike(LEAF, one), False)
        # They differ late, behind the longest way.
        far = [LevelBush((5, 1, LevelBush((6, z, LEAF)))) for z in (1, 2)]
        self.truth(bushes_alike(far[0], far[1]), False)
        self.truth(bushes_alike(far[0], LevelBush((11, 1, LEAF))), True)
        self.truth(bushes_alike(LevelBush((12, 1, LEAF)), LevelBush((12, 1, CUP))), False)


if __name__ == "__main__":
    unittest.main()
