"""Point 121, with points 15, 41, 42 and 43: Linked."""

import unittest
from fractions import Fraction

from rodwebs.alike import alike, lead_between
from rodwebs.cores import Core
from rodwebs.errors import (
    BadCount, BadLength, BadLink, BadPlace, BadSizes, BadTwist, Mismatch, NoEar, NotAlong, TooLarge,
)
from rodwebs.folds import fold
from rodwebs.fracs import Frac
from rodwebs.heardparts import heard_part
from rodwebs.joins import linked_web
from rodwebs.leads import Lead
from rodwebs.linked import Linked
from rodwebs.moves import turn, twin
from rodwebs.peeling import pile_of
from rodwebs.piles import Pile
from rodwebs.players import Player
from rodwebs.records import Record
from rodwebs.runs import echoes, play
from rodwebs.tables import Table
from rodwebs.webs import Web
from tests.helpers import Looks, exact, frac, fracs, some_strength, source
from tests.players import TOLD, Leads, some_knocks, some_linked, web_of
from tests.told import some_state, some_told

HALF = Frac(1, 2)
PILE = Pile([HALF, Frac(-1, 3)], strength=2)
TWO = Web(["level"] * 3, [(0, 1, 1, 1), (0, 2, 1, 1)], [(0, 2)])
TWINS = Web(["level"] * 2, [(0, 1, 1, 1), (1, 0, 1, 3)], [(0, 2)])
EARS = Web(["level", "stream"], [(0, 1, 1, 3, -1)], [(0, 2), (1, 2), (0, 1)])


def told_tick(linked, state, knocks):
    """A tick of a Linked player as point 42 tells it: every link is a pair of lines of numbers."""
    left = list(state)
    states = [[left.pop(0) for _ in range(player.cells)] for player in linked.players]
    lines = [([left.pop(0) for _ in range(link[2])], [left.pop(0) for _ in range(link[2])]) for link in linked.links]
    tied = {}
    for (ear, other, _, twist), (forth, backs) in zip(linked.links, lines):
        tied[other] = twist * forth.pop()
        tied[ear] = twist * backs.pop()
    count = sum(player.ears for player in linked.players)
    free = iter(knocks)
    given = [tied[ear] if ear in tied else next(free) for ear in range(count)]
    heard, new = [], []
    for player, own in zip(linked.players, states):
        own, told = player.tick(own, given[len(heard):len(heard) + player.ears])
        heard += told
        new += own
    for (ear, other, _, _), (forth, backs) in zip(linked.links, lines):
        new += [heard[ear], *forth, heard[other], *backs]
    return new, [heard[ear] for ear in range(count) if ear not in tied]


def some_webs_and_links(draw):
    """Webs whose ears have few different strengths, and links between ears of one and of several webs."""
    while True:
        webs = []
        for _ in range(draw.randint(1, 3)):
            told = some_told(draw, draw.randint(1, 2), draw.randint(0, 2), draw.randint(1, 4), 2)
            told.ears = [(joint, Fraction(draw.choice([1, 2]))) for joint, _ in told.ears]
            webs.append(told)
        ears = [ear for told in webs for ear in told.ears]
        free, links = list(range(len(ears))), []
        while len(free) > 1 and (draw.random() < 0.6 or len(free) > 4):
            one, other = draw.sample(free, 2)
            if ears[one][1] != ears[other][1]:
                break
            links.append((one, other, draw.randint(1, 3), draw.choice([1, -1])))
            free = [ear for ear in free if ear not in (one, other)]
        cells = sum(told.cells for told in webs) + sum(2 * link[2] for link in links)
        rods = sum(len(told.rods) for told in webs) + len(links)
        if links and len(free) <= 4 and cells <= 24 and rods <= 8:
            return [web_of(told) for told in webs], links


class Webs(Looks, unittest.TestCase):
    def test_plays_like_the_linked_web(self):
        draw = source(1210)
        inside = across = 0
        for _ in range(30):
            webs, links = some_webs_and_links(draw)
            linked, web = Linked(webs, links), linked_web(webs, links)
            self.assertEqual((linked.cells, linked.ears, linked.strengths), (web.cells, web.ears, web.strengths))
            first, second = [fracs(some_state(draw, web.cells)) for _ in range(2)]
            knocks = some_knocks(draw, web, 4)
            record, wanted = play(linked, first, knocks), play(web, first, knocks)
            self.assertEqual(list(record.states()), list(wanted.states()))
            self.assertEqual(record.heard_lists(), wanted.heard_lists())
            self.assertEqual(linked.back(second, knocks[0]), web.back(second, knocks[0]))
            self.one(linked.product(first, second), exact(web.product(first, second)))
            self.assertEqual(linked.form(), web.form())
            owner = [k for k, part in enumerate(webs) for _ in range(part.ears)]
            inside += any(owner[link[0]] == owner[link[1]] for link in links)
            across += any(owner[link[0]] != owner[link[1]] for link in links)
        self.assertGreater(min(inside, across), 8)

    def test_twist_left_out(self):
        linked = Linked([TWO, TWO], [[0, 1, 3]])
        self.assertEqual(linked.links, ((0, 1, 3, 1),))
        self.assertEqual([type(part) for part in (linked.links, *linked.links)], [tuple] * 2)
        self.assertEqual([type(part) for part in linked.links[0]], [int] * 4)


class AllPlayers(Looks, unittest.TestCase):
    def test_ticks(self):
        draw = source(1211)
        for _ in range(4):
            for linked in some_linked(draw):
                self.assertIsInstance(linked, Player)
                state, knocks = fracs(some_state(draw, linked.cells)), some_knocks(draw, linked, 1)[0]
                given = linked.tick(tuple(state), tuple(knocks))
                self.assertEqual([type(part) for part in (given, *given)], [tuple, list, list])
                self.all_fracs(given)
                self.assertEqual(given, told_tick(linked, state, knocks))
                self.assertEqual(linked.back(*given), (state, knocks))
                self.assertEqual(linked.energy(given[0]) + linked.ear_energy(given[1]),
                                 linked.energy(state) + linked.ear_energy(knocks))
                self.all_fracs(linked.back(*given))

    def test_products(self):
        draw = source(1212)
        for linked in some_linked(draw):
            first, second = [fracs(some_state(draw, linked.cells)) for _ in range(2)]
            total = Frac(0)
            (states, lines), (others, below) = linked.parts(first), linked.parts(second)
            for player, one, other in zip(linked.players, states, others):
                total = total + player.product(one, other)
            strengths = [strength for player in linked.players for strength in player.strengths]
            for link, one, other in zip(linked.links, lines, below):
                total = total + strengths[link[0]] * sum(x * y for way, beside in zip(one, other)
                                                         for x, y in zip(way, beside))
            self.assertEqual(linked.product(first, second), total)

    def test_attributes(self):
        players = [PILE, EARS]
        linked = Linked(players, [(0, 2, 2, -1)])
        self.assertEqual((linked.cells, linked.ears, exact(linked.strengths)), (8, 2, [2, 1]))
        self.assertIs(type(linked.players), tuple)
        self.assertEqual([player is part for player, part in zip(players, linked.players)], [True, True])
        self.assertEqual(linked.links, ((0, 2, 2, -1),))
        players[0] = TWO
        self.assertIs(linked.players[0], PILE)
        for name, wanted in (("cells", int), ("ears", int), ("strengths", tuple)):
            self.assertIs(type(getattr(linked, name)), wanted)
        alone = Linked((Web(),), ())
        self.assertEqual((alone.cells, alone.ears, alone.links), (0, 0, ()))
        self.assertEqual(alone.tick([], []), ([], []))

    def test_known(self):
        """A pile at the end of a link: what is knocked comes back after twice the length of the link."""
        linked = Linked([Web(["level"], [], [(0, 1), (0, 1)]), Pile([], end=-1)], [(1, 2, 3, -1)])
        record = play(linked, linked.rest(), [[1]] + [[0]] * 7)
        self.same(record.heard_lists(), [[0]] * 6 + [[-1]] + [[0]])
        self.assertEqual(pile_of(linked), Pile([0] * 6, end=-1))

    def test_parts(self):
        linked = Linked([PILE, EARS], [(0, 2, 2, -1)])
        given = linked.parts((1, 2, 3, 4, HALF, 6, 7, 8))
        self.assertEqual([type(given), *map(type, given)], [tuple, list, list])
        self.assertEqual(given, ([[1, 2], [3, 4]], [([HALF, 6], [7, 8])]))
        self.assertEqual([type(part) for part in (*given[0], *given[1], *given[1][0])], [list, list, tuple, list, list])
        self.all_fracs(given)
        nested = Linked([linked, PILE], [])
        self.assertEqual(nested.parts(list(range(10))), ([list(range(8)), [8, 9]], []))
        state = [0] * 8
        linked.parts(state)[0][0][0] = 5
        linked.parts(state)[1][0][0][0] = 5
        self.assertEqual(state, [0] * 8)
        for given in (0, 7, 9):
            self.refused(BadSizes, {"given": given, "wanted": 8}, linked.parts, [0] * given)

    def test_wrong_lengths(self):
        linked = Linked([PILE, EARS], [(0, 2, 2, -1)])
        for call in (linked.tick, linked.back):
            self.refused(BadSizes, {"given": 7, "wanted": 8}, call, [0] * 7, [0] * 3)
            for given in (0, 1, 3, 4):
                self.refused(BadSizes, {"given": given, "wanted": 2}, call, [0] * 8, [0] * given)
        self.refused(BadSizes, {"given": 9, "wanted": 8}, linked.product, [0] * 9, [0] * 7)
        self.refused(BadSizes, {"given": 7, "wanted": 8}, linked.product, [0] * 8, [0] * 7)

    def test_nested(self):
        """Linked players inside others play like all at once."""
        draw = source(1213)
        flat = Linked([PILE, EARS, TWO], [(0, 2, 1, -1), (1, 4, 2, 1)])
        inner = Linked([PILE, EARS], [(0, 2, 1, -1)])
        nested = Linked([inner, TWO], [(0, 2, 2, 1)])
        self.assertEqual(nested.strengths, flat.strengths)
        self.assertEqual(echoes(nested, 10), echoes(flat, 10))
        self.assertTrue(alike(nested, flat))
        # The cells are those of the pile, of both webs and of the links, in another order.
        state = fracs(some_state(draw, 14))
        order = [0, 1, 2, 3, 8, 9, *range(4, 8), *range(10, 14)]
        new, heard = flat.tick(state, [3])
        moved, sounds = nested.tick([state[cell] for cell in order], [3])
        self.assertEqual((moved, sounds), ([new[cell] for cell in order], heard))
        self.assertEqual(nested.energy([state[cell] for cell in order]), flat.energy(state))


class Making(Looks, unittest.TestCase):
    def test_refused_like_webs(self):
        players = [PILE, EARS]
        for count in (0, 5, 300):
            self.refused(BadCount, {"count": count}, Linked, [PILE] * count, [(9, 9, 9)] * 9)
        for count in (9, 10, 300):
            self.refused(BadCount, {"count": count}, Linked, players, [(9, 9, 9)] * count)
        for ear in (4, -1, 10 ** 30):
            self.refused(NoEar, {"ear": ear}, Linked, players, [(ear, 99, 0, 0)])
            self.refused(NoEar, {"ear": ear}, Linked, players, [(0, ear, 0, 0)])
        self.refused(BadLink, {"index": 0}, Linked, players, [(1, 1, 0, 0)])
        self.refused(BadLink, {"index": 1}, Linked, players, [(1, 0, 1), (2, 0, 0, 0)])
        self.refused(BadLink, {"index": 1}, Linked, players, [(1, 0, 1), (1, 2, 0, 0)])
        for length in (0, 13, -1):
            self.refused(BadLength, {"length": length}, Linked, players, [(0, 1, length, 0)])
        for twist in (0, 2):
            self.refused(BadTwist, {"twist": twist}, Linked, players, [(0, 3, 1, twist)])
        self.refused(Mismatch, {}, Linked, players, [(0, 3, 12), (0, 1, 1)])

    def test_too_many_players(self):
        none = Web()
        eight = Linked([Linked([none] * 3, []), Linked([none] * 3, [])], [])
        eighteen = Linked([eight, eight], [])
        most = Linked([eighteen, eight, none, none], [])
        self.assertEqual(Linked([most.players[0], most.players[1], none], []).cells, 0)
        self.assertEqual(len(most.players), 4)
        # 18 and 8 players inside of the first two, and these four: 30; with another one inside: 31 and more.
        self.refused(TooLarge, {"size": 33}, Linked, [most, Linked([none], [])], [])
        self.assertEqual(Linked([most, none], []).ears, 0)
        self.refused(TooLarge, {"size": 62}, Linked, [most, most], [])
        chain = none
        for _ in range(32):
            chain = Linked([chain], [])
        self.refused(TooLarge, {"size": 33}, Linked, [chain], [])
        self.assertEqual(chain.tick([], []), ([], []))

    def test_order_of_errors(self):
        chain = Web(["level"], [(0, 0, 1, 1)], [(0, 1)] * 3)
        for _ in range(31):
            chain = Linked([chain], [])
        large = Web(["level"], [(0, 0, 12, 1)], [(0, 1)] * 3)
        self.refused(Mismatch, {}, Linked, [chain, PILE], [(0, 3, 12)])
        self.refused(TooLarge, {"size": 33}, Linked, [chain, large], [])
        self.refused(TooLarge, {"size": 26}, Linked, [chain], [(0, 1, 12)])
        self.refused(TooLarge, {"size": 48}, Linked, [large, large], [])
        self.refused(TooLarge, {"size": 26}, Linked, [large], [(0, 1, 1)])
        small = Web(["level"], [], [(0, 1)] * 3)
        self.refused(BadCount, {"count": 6}, Linked, [small, small], [])
        self.refused(BadCount, {"count": 9}, Linked, [large, small, small], [])
        self.assertEqual(Linked([large, Web(["level"], [], [(0, 1)])], []).cells, 24)
        self.assertEqual(Linked([small, small], [(0, 5, 12)]).ears, 4)
        ears = Web(["level"], [], [(0, 1)] * 4)
        self.assertEqual(Linked([ears] * 4, [(k, 8 + k, 1) for k in range(8)]).cells, 16)

    def test_no_argument_changes(self):
        players, links = [PILE, EARS], [[0, 2, 2]]
        linked = Linked(players, links)
        links[0][2] = 5
        players.append(TWO)
        self.assertEqual((linked.links, len(linked.players), linked.cells), (((0, 2, 2, 1),), 2, 8))


class Exchanging(Leads, Looks, unittest.TestCase):
    def looked_at(self, draw, linked, index, lead):
        """The player at the index is exchanged while all sounds, and nobody hears it."""
        made = linked.exchanged(index, lead)
        self.leads(draw, made, linked, made.second)
        self.assertIs(type(made.second), Linked)
        self.assertEqual(made.second.links, linked.links)
        for place, (old, new) in enumerate(zip(linked.players, made.second.players)):
            self.assertIs(new, lead.second if place == index else old)
        state = fracs(some_state(draw, linked.cells))
        states, lines = linked.parts(state)
        states[index] = lead(states[index])
        self.assertEqual(made.second.parts(made(state)), (states, lines))
        return made

    def test_any(self):
        draw = source(1214)
        linked = Linked([TWO, EARS, PILE], [(0, 1, 2, -1), (2, 4, 1)])
        for index, player in enumerate(linked.players):
            leads = [Lead.same(player), Lead(player, Core.of(player), Table.unit(player.cells)), heard_part(player)]
            if player.ears == 1:
                leads.append(lead_between(player, pile_of(player)))
            if isinstance(player, Web):
                leads.append(turn(player, 0))
                leads.append(lead_between(player, Linked([player], [])))
            for lead in leads:
                self.looked_at(draw, linked, index, lead)
        self.looked_at(draw, Linked([TWINS, EARS], [(0, 1, 2)]), 0, twin(TWINS, 0, 1))
        folded = fold(TWO)
        made = self.looked_at(draw, Linked([folded.first, EARS], [(0, 2, 1)]), 0, folded)
        self.assertEqual(made.second.cells, made.first.cells + 2)

    def test_while_it_sounds(self):
        draw = source(1215)
        linked = Linked([TWINS, EARS], [(0, 1, 1, -1)])
        knocks = some_knocks(draw, linked, 8)
        record = Record(linked, linked.rest())
        whole = play(linked, linked.rest(), knocks)
        heard = []
        for tick, numbers in enumerate(knocks):
            if tick == 3:
                lead = record.player.exchanged(0, twin(TWINS, 0, 1))
                record = Record(lead.second, lead(record.now()))
            if tick == 5:
                lead = record.player.exchanged(1, lead_between(EARS, Core.of(EARS)))
                record = Record(lead.second, lead(record.now()))
            heard.append(record.step(numbers))
        self.assertEqual(heard, whole.heard_lists())

    def test_nested(self):
        draw = source(1216)
        inner = Linked([TWINS, EARS], [(0, 1, 1)])
        outer = Linked([inner, PILE], [(0, 2, 1, -1)])
        made = self.looked_at(draw, outer, 0, inner.exchanged(0, twin(TWINS, 0, 1)))
        self.assertEqual(made.second.cells, outer.cells - 2)

    def test_refused(self):
        linked = Linked([TWO, EARS], [(0, 1, 1)])
        for index in (2, -1, 10 ** 30):
            self.refused(BadPlace, {"place": index}, linked.exchanged, index, Lead.same(PILE))
        other = Web(["level"] * 2, [(0, 1, 1, 2)], [(0, 2)])
        for index, player in ((0, EARS), (1, TWO), (0, other), (0, Pile([0] * 4)), (0, Web(["level"] * 3, TWO.rods))):
            self.refused(Mismatch, {}, linked.exchanged, index, Lead.same(player))
        crossed = Web(EARS.joints, EARS.rods, [(0, 1), (1, 2), (0, 2)])
        self.refused(Mismatch, {}, linked.exchanged, 1, Lead.same(crossed))

    def test_too_large(self):
        ear = Web(["level"], [], [(0, 1)])
        pile = Pile([0] * 2)
        wide = Web(["level", "level"], [(0, 1, 1, 1)], [(0, 1)])
        ring = Web(["level"] * 3, [(0, 1, 1, 1), (2, 2, 11, 1)], [(0, 1)])
        linked = Linked([wide, ear], [(0, 1, 1)])
        self.refused(TooLarge, {"size": 26}, linked.exchanged, 0, lead_between(wide, ring))
        self.assertEqual(linked.exchanged(0, lead_between(wide, pile)).second.cells, 4)
        chain = wide
        for _ in range(31):
            chain = Linked([chain], [])
        self.refused(TooLarge, {"size": 33}, linked.exchanged, 0, lead_between(wide, chain))
        self.refused(Mismatch, {}, linked.exchanged, 1, lead_between(wide, chain))
        self.assertEqual(Linked([wide], []).exchanged(0, lead_between(wide, chain)).second.cells, 2)

    def test_not_along(self):
        """A lead of another player that agrees and has as many cells is no lead for the whole."""
        linked = Linked([TWO, EARS], [(0, 1, 1)])
        other = Web(TWO.joints, [(0, 1, 1, 1), (0, 2, 1, 5)], TWO.ear_list)
        error = self.refused(NotAlong, {}, linked.exchanged, 0, Lead.same(other))
        self.assertEqual([type(error.state), type(error.knocks)], [tuple, tuple])
        self.assertEqual((len(error.state), len(error.knocks)), (linked.cells, linked.ears))
        self.all_fracs((error.state, error.knocks))
        made = Linked([other, EARS], [(0, 1, 1)])
        self.assertNotEqual(linked.tick(error.state, error.knocks), made.tick(error.state, error.knocks))
        # The same player, made once more, does as well.
        again = Web(TWO.joints, TWO.rods, TWO.ear_list)
        self.assertEqual(linked.exchanged(0, Lead.same(again)).table, Table.unit(linked.cells))


class Leaving(Looks, unittest.TestCase):
    def test_everything_runs_over_linked_players(self):
        draw = source(1217)
        told = web_of(TOLD)
        strength = some_strength(draw)
        linked = Linked([Web(["level"], [], [(0, frac(strength))]), told], [])
        self.assertEqual(echoes(linked, 4)[0].height, 3)
        core = Core.of(linked)
        self.assertEqual((core.cells, core.strengths), (linked.cells, linked.strengths))
        self.assertTrue(alike(core, linked))


if __name__ == "__main__":
    unittest.main()
