"""Point 113, with points 40 and 47: discounted, discounted_at_rest, discounted_start."""

import unittest
from fractions import Fraction

from rodwebs.cores import Core
from rodwebs.discount import discounted, discounted_at_rest, discounted_start
from rodwebs.errors import BadDiscount, BadSizes
from rodwebs.fracs import Frac
from rodwebs.linked import Linked
from rodwebs.piles import Pile
from rodwebs.runs import echoes, play
from rodwebs.tables import Table
from rodwebs.ways import distances
from rodwebs.webs import Web
from tests.helpers import Looks, exact, frac, fracs, source
from tests.players import TOLD, some_players, web_of
from tests.told import some_state, some_told, told_webs

WEB = web_of(TOLD)
HALF = Frac(1, 2)
VALUES = (Fraction(1, 10), Fraction(-1, 10), Fraction(1, 30))


def told_at_rest(told, value):
    """The rows of the discounted table by the equations at rest, where the numbers go round until they are small.

    What goes round for the ears one by one is taken from rest to rest: it loses at least a factor of the value in
    each passage of a rod.
    """
    columns = []
    for knocked in range(len(told.ears)):
        knocks = [Fraction(int(ear == knocked)) for ear in range(len(told.ears))]
        ends = {}
        for _ in range(40):
            leaving = {}
            for joint in range(len(told.joints)):
                arms = told.joint_arms(joint)
                came = [knocks[number] if side == "ear" else ends.get((side, number), Fraction(0))
                        for side, number in arms]
                sizes = [told.strength(arm) for arm in arms]
                if told.joints[joint] == "level" and arms:
                    middle = 2 * sum(z * a for z, a in zip(sizes, came)) / sum(sizes)
                    leaving.update({arm: middle - a for arm, a in zip(arms, came)})
                elif arms:
                    middle = 2 * sum(came) / sum(1 / z for z in sizes)
                    leaving.update({arm: a - middle / z for arm, a, z in zip(arms, came, sizes)})
            ends = {}
            for number, (_, _, length, _, twist) in enumerate(told.rods):
                ends["end", number] = round_off(twist * value ** length * leaving["start", number])
                ends["start", number] = round_off(twist * value ** length * leaving["end", number])
        columns.append([leaving["ear", ear] for ear in range(len(told.ears))])
    return [[column[a] for column in columns] for a in range(len(told.ears))]


def round_off(number):
    return Fraction(round(number * 10 ** 30), 10 ** 30)


class Discounted(Looks, unittest.TestCase):
    def near(self, given, wanted, least=20):
        """Tables that differ by no more than a very small number."""
        for row, beside in zip(exact(given), wanted):
            for x, y in zip(row, beside):
                self.assertLess(abs(x - y), Fraction(1, 10 ** least))

    def test_sums_of_echoes(self):
        draw = source(1130)
        for player in [WEB, *some_players(draw)]:
            tables = [exact(list(table)) for table in echoes(player, 30)]
            for value in VALUES:
                given = discounted(player, frac(value))
                self.assertIs(type(given), Table)
                self.assertEqual((given.height, given.width), (player.ears, player.ears))
                wanted = [[sum(value ** k * table[a][b] for k, table in enumerate(tables))
                           for b in range(player.ears)] for a in range(player.ears)]
                self.near(list(given), wanted)

    def test_at_rest(self):
        draw = source(1131)
        for told in [TOLD, *told_webs(draw, 12)]:
            web = web_of(told)
            for value in VALUES:
                given = discounted_at_rest(web, frac(value))
                self.assertIs(type(given), Table)
                self.assertEqual((given.height, given.width), (web.ears, web.ears))
                self.near(list(given), told_at_rest(told, value))

    def test_both_are_equal(self):
        draw = source(1132)
        near = Frac(10 ** 20 - 1, 10 ** 20)
        for told in [TOLD, *told_webs(draw, 20)]:
            web = web_of(told)
            for value in (HALF, Frac(-7, 8), 0, Frac(0), near, -near):
                self.assertEqual(discounted_at_rest(web, value), discounted(web, value))

    def test_nothing_later_counts(self):
        draw = source(1133)
        for player in [WEB, *some_players(draw)]:
            for value in (0, Frac(0)):
                self.assertEqual(discounted(player, value), echoes(player, 1)[0])

    def test_known(self):
        pile = Pile([0, 0, 0], end=-1, strength=2)
        self.assertEqual(discounted(pile, HALF), Table([[Frac(-1, 8)]]))
        self.assertEqual(discounted(Pile([Frac(1, 3)]), HALF), Table([[(Frac(1, 3) + HALF).over(1 + Frac(1, 6))]]))
        self.assertEqual(discounted(Linked([pile], []), HALF), discounted(pile, HALF))
        self.assertEqual(discounted(Core.of(WEB), HALF), discounted_at_rest(WEB, HALF))
        self.assertEqual(discounted(Web(), HALF), Table([]))
        self.assertEqual(discounted_at_rest(Web(["level"]), HALF), Table([]))
        ears = Web(["level"], [], [(0, 1), (0, 3)])
        self.assertEqual(discounted(ears, HALF), discounted_at_rest(ears, Frac(-1, 3)))

    def test_starts(self):
        draw = source(1134)
        for player in [WEB, *some_players(draw)]:
            state = some_state(draw, player.cells)
            heard = exact(play(player, fracs(state), [[0] * player.ears] * 30).heard_lists())
            for value in VALUES:
                given = discounted_start(player, tuple(fracs(state)), frac(value))
                self.assertIs(type(given), list)
                wanted = [sum(value ** k * numbers[ear] for k, numbers in enumerate(heard))
                          for ear in range(player.ears)]
                self.all_fracs(given)
                self.near([given], [wanted])
            self.assertEqual(discounted_start(player, fracs(state), 0), fracs(heard[0]))
        self.same(discounted_start(Pile([0, 0, 0]), [1, 2, 4], HALF), [3])

    def test_starts_and_tables(self):
        """What is knocked at once is heard again from the state behind the tick."""
        draw = source(1135)
        for player in [WEB, *some_players(draw)]:
            for ear in range(player.ears):
                new, heard = player.tick(player.rest(), [int(other == ear) for other in range(player.ears)])
                later = discounted_start(player, new, Frac(-2, 3))
                wanted = [x - Frac(2, 3) * y for x, y in zip(heard, later)]
                self.assertEqual(discounted(player, Frac(-2, 3)).column(ear), wanted)

    def test_a_rod_made_stronger(self):
        """Point 47."""
        draw = source(1136)
        seen = {True: 0, False: 0}
        for _ in range(15):
            told = some_told(draw, draw.randint(2, 5), draw.randint(1, 4), draw.randint(1, 2), 3)
            web = Web(["level"] * len(told.joints), [rod[:4] for rod in web_of(told).rods], web_of(told).ear_list)
            for number, (start, end, length, strength, _) in enumerate(web.rods):
                rods = list(web.rods)
                rods[number] = (start, end, length, strength + Frac(1, 7))
                other = Web(web.joints, rods, web.ear_list)
                for value in (Frac(1, 5), Frac(9, 10)):
                    one, more = discounted(web, value), discounted(other, value)
                    for ear, (joint, _) in enumerate(web.ear_list):
                        walk = distances(web, joint)[start] is not None
                        seen[walk] += 1
                        if walk:
                            self.assertLess(more[ear, ear], one[ear, ear])
                        else:
                            self.assertEqual(more[ear, ear], one[ear, ear])
        self.assertGreater(min(seen.values()), 5)

    def test_refused(self):
        for value in (1, -1, 2, Frac(1), Frac(-1), Frac(10 ** 59 + 1, 10 ** 59), Frac(-8, 7), 10 ** 30):
            for call in (discounted, discounted_at_rest):
                for web in (WEB, Web()):
                    error = self.refused(BadDiscount, {}, call, web, value)
                    self.assertIs(error.value, value)
            error = self.refused(BadDiscount, {}, discounted_start, WEB, [0] * 8, value)
            self.assertIs(error.value, value)
            for given in (0, 7, 9):
                self.refused(BadSizes, {"given": given, "wanted": 8}, discounted_start, WEB, [1] * given, value)
        for given in (0, 7, 9):
            self.refused(BadSizes, {"given": given, "wanted": 8}, discounted_start, WEB, [1] * given, HALF)

    def test_nothing_changes(self):
        state = [1] * 8
        discounted_start(WEB, state, HALF)[0] = 7
        self.assertEqual(state, [1] * 8)


if __name__ == "__main__":
    unittest.main()
