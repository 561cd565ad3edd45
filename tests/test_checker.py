"""Point 128, with points 49 and 127: accepts."""

import unittest

from rodwebs.alike import compare
from rodwebs.checker import accepts
from rodwebs.cores import Core
from rodwebs.explaining import explanation
from rodwebs.fracs import Frac
from rodwebs.leads import Lead
from rodwebs.linked import Linked
from rodwebs.papers import (
    Alike, Begins, Explained, Ghost, Hushed, Louder, Steered, Told, Unexplained, Unhushed, Unlike, Unreached,
)
from rodwebs.peeling import begins
from rodwebs.piles import Pile
from rodwebs.runs import echoes, play
from rodwebs.shapes import re_eared
from rodwebs.steering import hush, steer
from rodwebs.tellback import told_back
from rodwebs.told import tell
from rodwebs.webs import Web
from tests.helpers import Looks, exact, fracs, some_fraction, source
from tests.players import TOLD, brought, some_knocks, some_players, units, web_of
from tests.told import some_pane, some_state

WEB = web_of(TOLD)
HALF = Frac(1, 2)
TWO = Web(["level"] * 3, [(0, 1, 1, 1), (0, 2, 1, 1)], [(0, 1)])
ONE = Web(["level"] * 2, [(0, 1, 1, 2)], [(0, 1)])
# The lists of a paper in which a number can be changed.
LISTS = {Begins: ["numbers"], Louder: ["numbers", "knocks"], Told: ["measure", "weights"], Ghost: ["measure", "state"],
         Steered: ["wish", "knocks"], Unreached: ["wish", "bar"], Hushed: ["state", "knocks"],
         Unhushed: ["state", "bar"], Explained: ["heard", "knocks", "state"],
         Unexplained: ["heard", "knocks", "weights"]}
ARGUMENTS = {Begins: "numbers pile", Louder: "numbers knocks", Told: "player measure ears weights",
             Ghost: "player measure ears ticks state", Steered: "player wish knocks",
             Unreached: "player wish ticks bar", Hushed: "player state knocks", Unhushed: "player state ticks bar",
             Explained: "player heard knocks state", Unexplained: "player heard knocks weights"}


def silence(player, ticks):
    return [[0] * player.ears] * ticks


def heard_alone(player, state, ticks, ears):
    return [[row[ear] for ear in ears] for row in exact(play(player, state, silence(player, ticks)).heard_lists())]


def summed(first, second):
    return sum(x * y for x, y in zip(exact(first), exact(second)))


def weighed(weights, heard):
    return sum(summed(one, other) for one, other in zip(weights, heard))


def barred(player, bar, ticks, wish):
    """Whether the bar stands between all states that can be reached and the wish, with every single knock played."""
    for ear in range(player.ears):
        knocks = [[int((ear, 0) == (a, tick)) for a in range(player.ears)] for tick in range(ticks)]
        # What a single knock makes of rest a tick later is what the same knock a tick earlier makes of it.
        states = list(play(player, player.rest(), knocks).states())
        if any(player.product(bar, state) != 0 for state in states):
            return False
    return player.product(bar, wish) != 0


def holds(paper):
    """Whether a paper holds, by point 49, every tick played."""
    kind = type(paper)
    if kind is Unlike:
        if paper.one.strengths != paper.other.strengths:
            return False
        place = (paper.heard, paper.knocked)
        return echoes(paper.one, paper.at + 1)[-1][place] != echoes(paper.other, paper.at + 1)[-1][place]
    if kind is Begins:
        return exact(paper.pile.echo(len(paper.numbers))) == exact(paper.numbers)
    if kind is Louder:
        if len(paper.numbers) != len(paper.knocks):
            return False
        numbers, knocks = exact(paper.numbers), exact(paper.knocks)
        heard = [sum(numbers[k - j] * knocks[j] for j in range(k + 1)) for k in range(len(knocks))]
        return sum(x * x for x in heard) > sum(x * x for x in knocks)
    player = paper.player
    if kind is Told:
        return all(weighed(paper.weights, heard_alone(player, state, len(paper.weights), paper.ears))
                   == summed(paper.measure, state) for state in units(player.cells))
    if kind is Ghost:
        heard = heard_alone(player, paper.state, paper.ticks, paper.ears)
        return not any(any(row) for row in heard) and summed(paper.measure, paper.state) != 0
    if kind is Steered:
        return brought(player, paper.knocks) == list(paper.wish)
    if kind is Hushed:
        return play(player, paper.state, paper.knocks).now() == player.rest()
    if kind is Unreached:
        return barred(player, paper.bar, paper.ticks, paper.wish)
    if kind is Unhushed:
        return barred(player, paper.bar, paper.ticks, player.alone(paper.state, paper.ticks))
    if kind is Explained:
        return exact(play(player, paper.state, paper.knocks).heard_lists()) == exact(paper.heard)
    ears, ticks = range(player.ears), len(paper.weights)
    if any(weighed(paper.weights, heard_alone(player, state, ticks, ears)) != 0 for state in units(player.cells)):
        return False
    return weighed(paper.weights, paper.heard) != weighed(paper.weights, play(
        player, player.rest(), paper.knocks).heard_lists())


def changed(draw, numbers, depth=0):
    """A list with one number changed, or None if there is none."""
    if not numbers:
        return None
    at = draw.randrange(len(numbers))
    out = list(numbers)
    if isinstance(out[at], tuple):
        out[at] = changed(draw, out[at], depth + 1)
        return None if out[at] is None else out
    out[at] = out[at] + draw.choice([1, -1, HALF])
    return out


class Accepting(Looks, unittest.TestCase):
    def looked_at(self, paper, wanted):
        self.assertIs(accepts(paper), wanted)
        self.assertIs(holds(paper), wanted)

    def with_changes(self, draw, paper, seen):
        """A paper that holds, and what becomes of it with one number changed."""
        kind = type(paper)
        self.looked_at(paper, True)
        seen.setdefault(kind, [0, 0])
        for name in LISTS[kind]:
            for _ in range(2):
                other = changed(draw, getattr(paper, name))
                if other is not None:
                    names = ARGUMENTS[kind].split()
                    made = kind(*[other if each == name else getattr(paper, each) for each in names])
                    wanted = holds(made)
                    self.assertIs(accepts(made), wanted)
                    seen[kind][wanted] += 1

    def test_papers_of_the_program(self):
        draw = source(1280)
        seen = {}
        for player in [WEB, TWO, *some_players(draw, 3)]:
            group = draw.sample(range(player.ears), draw.randint(0, player.ears))
            for ticks in (0, 1, 3, player.cells):
                state, measure = fracs(some_state(draw, player.cells)), fracs(some_state(draw, player.cells))
                knocks = some_knocks(draw, player, ticks)
                heard = play(player, state, knocks).heard_lists()
                papers = [tell(player, measure, ticks), tell(player, measure, ticks, ears=group),
                          tell(player, player.rest(), ticks), explanation(player, heard, knocks=knocks),
                          explanation(player, some_knocks(draw, player, ticks)), explanation(player, heard)]
                if ticks <= 24:
                    papers += [steer(player, state, ticks), steer(player, brought(player, knocks), ticks),
                               hush(player, state, ticks), hush(player, brought(player, knocks), player.cells)]
                for paper in papers:
                    self.with_changes(draw, paper, seen)
        for count in (1, 2, 5, 9):
            panes = fracs([some_pane(draw) for _ in range(count)])
            self.with_changes(draw, begins(Pile(panes).echo(count)), seen)
            self.with_changes(draw, begins([*Pile(panes).echo(count), 5]), seen)
        self.assertEqual(set(seen), set(LISTS))
        for kind in (Begins, Told, Ghost, Steered, Hushed, Explained, Unreached, Unhushed, Unexplained):
            self.assertGreater(seen[kind][False], 3, kind)
        for kind in (Ghost, Unreached, Unhushed, Unexplained, Louder):
            self.assertGreater(seen[kind][True], 3, kind)

    def test_comparing(self):
        draw = source(1281)
        for player in [WEB, TWO, *some_players(draw, 3)]:
            for other in (player, Core.of(player), told_back(player.strengths, echoes(player, player.cells + 1))):
                paper = compare(player, other)
                self.assertIs(type(paper), Alike)
                self.assertIs(accepts(paper), True)
            self.assertIs(accepts(Alike(Lead.same(player))), True)
            if isinstance(player, Web) and player.rods:
                start, end, length, strength, twist = player.rods[0]
                other = Web(player.joints, [(start, end, length, strength * 2, twist), *player.rods[1:]],
                            player.ear_list)
                paper = compare(player, other)
                if type(paper) is Unlike:
                    self.looked_at(paper, True)
                    for at in range(paper.at):
                        self.looked_at(Unlike(player, other, at, paper.heard, paper.knocked), False)

    def test_unlike(self):
        self.looked_at(Unlike(TWO, ONE, 0, 0, 0), False)
        self.looked_at(Unlike(TWO, ONE, 199, 0, 0), False)
        for at in range(4):
            self.looked_at(Unlike(Pile([0] * 2), Pile([0] * 2, end=-1), at, 0, 0), at == 2)
        self.looked_at(Unlike(Pile([0] * 24), Pile([0] * 24, end=-1), 24, 0, 0), True)
        self.looked_at(Unlike(ONE, Web(["level"] * 2, [(0, 1, 1, 3)], [(0, 1)]), 199, 0, 0), False)
        self.looked_at(Unlike(ONE, Web(["level"] * 2, [(0, 1, 1, 3)], [(0, 1)]), 198, 0, 0), True)
        # Players that do not agree.
        self.looked_at(Unlike(ONE, re_eared(ONE, 0, 7), 0, 0, 0), False)
        self.looked_at(Unlike(ONE, WEB, 0, 0, 0), False)
        self.looked_at(Unlike(ONE, Linked([Pile([])], []), 0, 0, 0), True)
        core = Core.of(WEB)
        for heard in (0, 1):
            for knocked in (0, 1):
                self.looked_at(Unlike(WEB, core, 3, heard, knocked), False)

    def test_one_ear_of_several(self):
        """Only the ear that is named knocks, and each ear by itself reaches states."""
        one = Web(["level"] * 2, [(0, 1, 1, 1)], [(0, 1), (1, 1)])
        other = Web(["level"] * 2, [(0, 1, 1, 1, -1)], [(0, 1), (1, 1)])
        for heard in (0, 1):
            for knocked in (0, 1):
                self.looked_at(Unlike(one, other, 1, heard, knocked), heard != knocked)
        apart = Web(["level"] * 4, [(0, 1, 1, 1), (2, 3, 1, 1)], [(0, 1), (2, 1)])
        self.looked_at(Unreached(apart, [1, 0, 0, 0], 1, [1, 0, -1, 0]), False)
        self.looked_at(Unreached(apart, [1, 1, 0, 0], 1, [0, 1, 0, -1]), True)
        self.looked_at(Unhushed(apart, [1, 0, 1, 0], 1, [1, 0, -1, 0]), False)
        self.looked_at(Told(apart, [0, 1, 0, 0], (0, 1), [[1, 0]]), True)
        self.looked_at(Told(apart, [0, 1, 0, 0], (1, 0), [[1, 0]]), False)
        self.looked_at(Told(apart, [0, 0, 0, 1], (1,), [[1]]), True)

    def test_begins(self):
        self.looked_at(Begins([], Pile([HALF])), True)
        self.looked_at(Begins([HALF, Frac(3, 4), 0], Pile([HALF])), False)
        self.looked_at(Begins((HALF, Frac(3, 4), Frac(-3, 8)), Pile([HALF], strength=5)), True)
        self.looked_at(Begins(Pile([HALF, 0]).echo(200), Pile([HALF, 0])), True)
        numbers = Pile([HALF, 0]).echo(200)
        numbers[199] = numbers[199] + 1
        self.looked_at(Begins(numbers, Pile([HALF, 0])), False)

    def test_louder(self):
        self.looked_at(Louder([], []), False)
        self.looked_at(Louder([2], [1]), True)
        self.looked_at(Louder([1], [1]), False)
        self.looked_at(Louder([0, 2], [1, 0]), True)
        self.looked_at(Louder([0, 2], [0, 1]), False)
        self.looked_at(Louder([0, 2], [1]), False)
        self.looked_at(Louder([2], [1, 0]), False)
        self.looked_at(Louder([2], []), False)
        self.looked_at(Louder([2] + [0] * 199, [0] * 199 + [HALF]), True)
        self.looked_at(Louder([0] * 200, [1] * 200), False)

    def test_told_and_ghosts(self):
        self.looked_at(Told(TWO, [0] * 4, (0,), []), True)
        self.looked_at(Told(TWO, [0, 0, 0, 1], (0,), []), False)
        self.looked_at(Told(TWO, [0, Frac(2, 3), 0, Frac(2, 3)], (0,), [[1]]), True)
        self.looked_at(Told(TWO, [0, Frac(2, 3), 0, Frac(2, 3)], (0,), [[1], [1]]), False)
        self.looked_at(Told(TWO, [0, Frac(2, 3), 0, Frac(2, 3)], (0,), [[1]] + [[0]] * 199), True)
        self.looked_at(Told(TWO, [0, Frac(2, 3), 0, Frac(2, 3)], (0,), [[1]] + [[0]] * 198 + [[1]]), False)
        self.looked_at(Told(WEB, [0] * 8, (), [()] * 5), True)
        self.looked_at(Told(WEB, [1] + [0] * 7, (), [()] * 5), False)
        self.looked_at(Told(Web(), [], (), []), True)
        self.looked_at(Ghost(TWO, [1, 0, 0, 0], (0,), 200, [1, 0, -1, 0]), True)
        self.looked_at(Ghost(TWO, [1, 0, 1, 0], (0,), 200, [1, 0, -1, 0]), False)
        self.looked_at(Ghost(TWO, [1, 0, 0, 0], (0,), 0, [1, 0, 0, 0]), True)
        self.looked_at(Ghost(TWO, [1, 0, 0, 0], (0,), 1, [1, 0, 0, 0]), True)
        self.looked_at(Ghost(TWO, [1, 0, 0, 0], (0,), 2, [1, 0, 0, 0]), False)
        self.looked_at(Ghost(TWO, [1, 0, 0, 0], (), 200, [1, 0, 0, 0]), True)
        pile = Pile([0] * 24)
        for ticks in (22, 23, 24, 25, 200):
            self.looked_at(Ghost(pile, [1] * 24, (0,), ticks, units(24)[23]), ticks <= 23)
        # Ears by their numbers, also in another order.
        one, other = tell(WEB, units(8)[0], 8, ears=[1, 0]), tell(WEB, units(8)[0], 8)
        self.assertIs(type(one), type(other))
        self.assertIs(accepts(one), True)
        if type(one) is Told:
            self.assertIs(accepts(Told(WEB, one.measure, (0, 1), one.weights)), holds(
                Told(WEB, one.measure, (0, 1), one.weights)))

    def test_steered_and_bars(self):
        self.looked_at(Steered(TWO, [0] * 4, []), True)
        self.looked_at(Steered(TWO, [1, 0, 0, 0], []), False)
        pile = Pile([0] * 24)
        self.looked_at(Steered(pile, list(range(24)), [[k] for k in range(24)]), True)
        self.looked_at(Steered(pile, list(range(24)), [[k] for k in range(25)]), False)
        self.looked_at(Steered(pile, [0] * 24, [[1]] * 176 + [[0]] * 24), True)
        for ticks in (0, 1, 23, 24, 25, 200):
            # In so many ticks the last so many cells are reached.
            self.looked_at(Unreached(pile, [1] * 24, ticks, units(24)[0]), ticks < 24)
            self.looked_at(Unhushed(pile, units(24)[23], ticks, units(24)[0]), ticks == 23)
        self.looked_at(Unreached(pile, units(24)[3], 2, units(24)[4]), False)
        self.looked_at(Hushed(pile, units(24)[5], [[0]] * 6), True)
        self.looked_at(Hushed(pile, units(24)[5], [[0]] * 5), False)
        self.looked_at(Hushed(pile, [0] * 24, []), True)
        self.looked_at(Unreached(TWO, [1, 0, 0, 0], 200, [1, 0, -1, 0]), True)
        self.looked_at(Unhushed(TWO, [1, 0, 0, 0], 200, [1, 0, -1, 0]), True)
        self.looked_at(Unhushed(TWO, [1, 0, 0, 0], 199, [1, 0, -1, 0]), False)
        self.looked_at(Unhushed(TWO, [0, 0, 0, 0], 3, [1, 0, -1, 0]), False)
        deaf = Web(["level"] * 2, [(0, 1, 1, 1)])
        self.looked_at(Unreached(deaf, [1, 0], 200, [1, 0]), True)
        self.looked_at(Unreached(deaf, [1, 0], 0, [0, 1]), False)

    def test_explained(self):
        draw = source(1282)
        self.looked_at(Explained(TWO, [], [], [1, 2, 3, 4]), True)
        self.looked_at(Unexplained(TWO, [], [], []), False)
        state, knocks = fracs(some_state(draw, 8)), some_knocks(draw, WEB, 200)
        heard = play(WEB, state, knocks).heard_lists()
        self.looked_at(Explained(WEB, heard, knocks, state), True)
        heard[199][1] = heard[199][1] + 1
        self.looked_at(Explained(WEB, heard, knocks, state), False)
        self.looked_at(Unexplained(WEB, heard, knocks, [[0, 0]] * 200), False)
        ear = Web(["level"], [], [(0, 1)])
        self.looked_at(Unexplained(ear, [[0]] * 200, [[0]] * 199 + [[1]], [[0]] * 199 + [[3]]), True)
        self.looked_at(Unexplained(ear, [[0]] * 199 + [[1]], [[0]] * 199 + [[1]], [[0]] * 199 + [[3]]), False)
        self.looked_at(Explained(Web(), [[], []], [[], []], []), True)

    def test_nothing_changes(self):
        paper = Steered(TWO, [0] * 4, [[0], [0]])
        self.assertIs(accepts(paper), True)
        self.assertEqual((paper.wish, paper.knocks), ((0,) * 4, ((0,), (0,))))

    def test_any_fraction(self):
        """What differs by a very small number only differs."""
        draw = source(1283)
        number = some_fraction(draw)
        small = Frac(1, 10 ** 59)
        wish = [0, Frac(number.numerator, number.denominator), 0, 0]
        pile = Pile([0] * 4)
        self.looked_at(Steered(pile, wish, [[wish[1]], [0], [0]]), True)
        self.looked_at(Steered(pile, wish, [[wish[1] + small], [0], [0]]), False)


if __name__ == "__main__":
    unittest.main()
