"""Points 117 and 118: slide and unslide."""

import unittest
from fractions import Fraction

from rodwebs.errors import NoRod, NoSlide
from rodwebs.fracs import Frac
from rodwebs.leads import Lead
from rodwebs.shapes import with_ear
from rodwebs.slides import slide, unslide
from rodwebs.tables import Table
from rodwebs.webs import Web
from tests.helpers import Looks, exact, fracs, rank_of, some_strength, source
from tests.players import Leads, web_of
from tests.told import ToldWeb, some_state

# The joints j, k and g of both points, here of a level web: a stub from j to g, a rod from j to k.
J, K, G = 0, 1, 2


def written(way, first, last):
    return (first, last) if way else (last, first)


def sliding_web(draw, stub_way, rod_way, twist, at_k):
    """A web in which stub 0 can slide along rod 1, before they get other numbers, and some other rods."""
    length = draw.randint(1, 3)
    rods = [(*written(stub_way, J, G), length, some_strength(draw), 1),
            (*written(rod_way, J, K), length, some_strength(draw), twist)]
    ears = [(draw.choice([J, 3]), some_strength(draw)) for _ in range(draw.randint(0, 2))]
    if at_k == "ear":
        ears.insert(draw.randint(0, len(ears)), (K, some_strength(draw)))
    else:
        far = draw.choice([J, 3])
        rods.append((*written(at_k == "start", K, far), draw.randint(1, 2), some_strength(draw), draw.choice([1, -1])))
    for _ in range(draw.randint(0, 2)):
        rods.append((draw.choice([J, 3]), draw.choice([J, 3]), 1, some_strength(draw), draw.choice([1, -1])))
    order = draw.sample(range(len(rods)), len(rods))
    kinds = ["level", "level", "level", draw.choice(["level", "stream"])]
    return ToldWeb(kinds, [rods[k] for k in order], ears), order.index(0), order.index(1)


def some_sliding(draw, count):
    for stub_way in (True, False):
        for rod_way in (True, False):
            for twist in (1, -1):
                for at_k in ("ear", "start", "end"):
                    for _ in range(count):
                        yield sliding_web(draw, stub_way, rod_way, twist, at_k)


def told_slid(told, stub, rod):
    """The new web of point 117."""
    w, z = told.rods[stub][3], told.rods[rod][3]
    rods = list(told.rods)
    start, end, length, _, twist = rods[rod]
    rods[rod] = (start, end, length, z + w, -twist)
    start, end, length, _, _ = rods[stub]
    rods[stub] = (K if start == J else start, K if end == J else end, length, z * (z + w) / w, 1)
    return ToldWeb([told.joints[J], "stream", "stream", *told.joints[3:]], rods, told.ears)


class Slides(Leads, Looks, unittest.TestCase):
    def only_these_rods(self, lead, stub, rod):
        """The lead keeps all other numbers, and makes those of the two rods of numbers of the two rods alone."""
        web = lead.first
        own = {cell for number in (stub, rod) for cell in
               range(web.first_cells[number], web.first_cells[number] + 2 * web.rods[number][2])}
        for row, numbers in enumerate(exact(list(lead.table))):
            for col, number in enumerate(numbers):
                if row not in own or col not in own:
                    self.assertEqual(number, int(row == col))

    def looked_at(self, draw, told, stub, rod):
        web, wanted = web_of(told), told_slid(told, stub, rod)
        lead = slide(web, stub, rod)
        self.assertIs(lead.first, web)
        self.assertEqual(lead.second, web_of(wanted))
        self.leads(draw, lead, web, lead.second)
        self.only_these_rods(lead, stub, rod)
        state, knocks = some_state(draw, told.cells), some_state(draw, len(told.ears))
        carried = exact(lead(fracs(state)))
        new, heard = told.tick(state, knocks)
        self.assertEqual(wanted.tick(carried, knocks), (exact(lead(fracs(new))), heard))
        self.assertEqual(wanted.product(carried, carried), told.product(state, state))
        back = unslide(lead.second, stub, rod)
        self.assertIs(back.first, lead.second)
        self.assertEqual(back.second, web)
        self.leads(draw, back, lead.second, back.second)
        self.assertEqual(back.table * lead.table, Table.unit(web.cells))
        self.assertEqual(lead.table * back.table, Table.unit(web.cells))
        self.assertEqual(slide(back.second, stub, rod).table, lead.table)
        return lead, back

    def test_any(self):
        draw = source(1170)
        for told, stub, rod in some_sliding(draw, 3):
            self.looked_at(draw, told, stub, rod)

    def test_one_more_ear(self):
        """Each lead is also one between the two webs with one more ear at joint j."""
        draw = source(1171)
        for told, stub, rod in some_sliding(draw, 1):
            if len(told.ears) < 4:
                for lead in self.looked_at(draw, told, stub, rod):
                    for strength in (Frac(1, 3), 7):
                        one, other = [with_ear(web, J, strength) for web in (lead.first, lead.second)]
                        self.leads(draw, Lead(one, other, lead.table), one, other)

    def test_no_other_table(self):
        """With one more ear at joint j no other table of this form leads: no difference of two such tables is left."""
        draw = source(1172)
        for told, stub, rod in some_sliding(draw, 1):
            if len(told.ears) < 4 and told.rods[stub][2] == 1:
                lead = slide(web_of(told), stub, rod)
                for ahead, beside in ((lead.first, lead.second), (lead.second, lead.first)):
                    a, b, _, _ = with_ear(ahead, J, 2).tick_tables()
                    other, _, c, _ = with_ear(beside, J, 2).tick_tables()
                    own = [ahead.first_cells[number] + k for number in (stub, rod) for k in (0, 1)]
                    left = []
                    for row in own:
                        for col in own:
                            single = Table([[int((i, j) == (row, col)) for j in range(a.height)]
                                            for i in range(a.height)])
                            parts = (single * a - other * single, single * b, c * single)
                            left.append([x for part in parts for line in part for x in exact(list(line))])
                    self.assertEqual(rank_of(left), 16)

    def test_known(self):
        web = Web(["level"] * 3, [(0, 2, 1, 2), (0, 1, 1, 3)], [(1, 1), (0, 1)])
        lead = slide(web, 0, 1)
        self.assertEqual(lead.second, Web(["level", "stream", "stream"],
                                          [(1, 2, 1, Frac(15, 2)), (0, 1, 1, 5, -1)], [(1, 1), (0, 1)]))
        fifth = Frac(1, 5)
        self.assertEqual(lead.table, Table([[0, 2, 0, -2], [2, 0, -2, 0], [2, 0, 3, 0], [0, -2, 0, -3]]) * fifth)
        twisted = slide(Web(web.joints, [(2, 0, 1, 2), (1, 0, 1, 3, -1)], web.ear_list), 0, 1)
        self.assertEqual(twisted.second, Web(["level", "stream", "stream"],
                                             [(2, 1, 1, Frac(15, 2)), (1, 0, 1, 5)], [(1, 1), (0, 1)]))
        self.same(unslide(lead.second, 0, 1)(lead([1, 2, 3, 4])), [1, 2, 3, 4])
        self.assertEqual(Fraction(2, 5), exact(lead([0, 1, 0, 0])[0]))


class Refused(Looks, unittest.TestCase):
    GOOD = [(0, 2, 2, 2), (0, 1, 2, 3), (1, 3, 1, 1), (0, 3, 1, 1)]

    def no_slide(self, call, web, stub=0, rod=1):
        self.refused(NoSlide, {"stub": stub, "rod": rod}, call, web, stub, rod)

    def test_no_rod(self):
        web = Web(["level"] * 4, self.GOOD)
        for call in (slide, unslide):
            for rod in (4, -1, 10 ** 30):
                self.refused(NoRod, {"rod": rod}, call, web, rod, 99)
                self.refused(NoRod, {"rod": rod}, call, web, 0, rod)

    def test_no_slide(self):
        level = ["level"] * 4
        good = self.GOOD
        slide(Web(level, good), 0, 1)
        slide(Web(["level"] * 3 + ["stream"], good), 0, 1)
        # Other rods of the same web.
        for stub, rod in ((1, 0), (0, 0), (1, 1), (0, 2), (0, 3), (2, 1), (3, 1), (1, 2)):
            self.no_slide(slide, Web(level, good), stub, rod)
        for joint in (0, 1, 2):
            kinds = ["stream" if joint == k else "level" for k in range(4)]
            self.no_slide(slide, Web(kinds, good))
        bad = [
            # The stub: another length, twisted, a loop, with another arm at g.
            [(0, 2, 1, 2), *good[1:]], [(0, 2, 2, 2, -1), *good[1:]], [(0, 0, 2, 2), *good[1:]],
            [(2, 2, 2, 2), *good[1:]], [*good, (2, 3, 1, 1)], [*good, (3, 2, 1, 1)], [(0, 3, 2, 2), *good[1:]],
            # The rod: a loop, side by side with the stub, not at j.
            [good[0], (0, 0, 2, 3), *good[2:]], [good[0], (0, 2, 2, 3), *good[2:]],
            [good[0], (2, 0, 2, 3), *good[2:]], [good[0], (1, 3, 2, 3), *good[2:]],
            # Joint k with one arm and with three.
            [*good[:2], good[3]], [*good, (1, 3, 1, 1)], [*good, (1, 1, 1, 1)],
        ]
        for rods in bad:
            self.no_slide(slide, Web(level, rods))
        for ears in ([(1, 1)], [(2, 1)]):
            self.no_slide(slide, Web(level, good, ears))
        slide(Web(level, good, [(0, 1), (3, 1)]), 0, 1)
        slide(Web(level, [*good[:2], good[3]], [(1, 1)]), 0, 1)

    def test_no_unslide(self):
        kinds = ["level", "stream", "stream", "level"]
        good = [(1, 2, 2, 2), (0, 1, 2, 3), (1, 3, 1, 1), (0, 3, 1, 1)]
        unslide(Web(kinds, good), 0, 1)
        unslide(Web(kinds[:3] + ["stream"], good), 0, 1)
        for stub, rod in ((1, 0), (0, 0), (1, 1), (0, 2), (0, 3), (2, 1), (3, 1), (1, 2)):
            self.no_slide(unslide, Web(kinds, good), stub, rod)
        for joint in (0, 1, 2):
            other = list(kinds)
            other[joint] = "level" if kinds[joint] == "stream" else "stream"
            self.no_slide(unslide, Web(other, good))
        bad = [
            [(1, 2, 1, 2), *good[1:]], [(1, 2, 2, 2, -1), *good[1:]], [(1, 1, 2, 2), *good[1:]],
            [(2, 2, 2, 2), *good[1:]], [*good, (2, 3, 1, 1)], [(1, 3, 2, 2), *good[1:]],
            [good[0], (1, 1, 2, 3), *good[2:]], [good[0], (1, 2, 2, 3), *good[2:]], [good[0], (0, 3, 2, 3), *good[2:]],
            # Joint k with two arms and with four.
            [*good[:2], good[3]], [*good, (1, 3, 1, 1)],
        ]
        for rods in bad:
            self.no_slide(unslide, Web(kinds, rods))
        for ears in ([(1, 1)], [(2, 1)]):
            self.no_slide(unslide, Web(kinds, good, ears))
        unslide(Web(kinds, good, [(0, 1), (3, 1)]), 0, 1)
        unslide(Web(kinds, [*good[:2], good[3]], [(1, 1)]), 0, 1)

    def test_nothing_changes(self):
        web = Web(["level"] * 4, self.GOOD)
        slide(web, 0, 1)
        self.assertEqual(web, Web(["level"] * 4, self.GOOD))
        other = slide(web, 0, 1).second
        unslide(other, 0, 1)
        self.assertEqual(other, slide(web, 0, 1).second)

    def test_longest(self):
        web = Web(["level"] * 3, [(0, 2, 6, 2), (1, 0, 6, 3, -1)], [(1, 1)])
        lead = slide(web, 0, 1)
        self.assertEqual(unslide(lead.second, 0, 1).table * lead.table, Table.unit(24))


if __name__ == "__main__":
    unittest.main()
