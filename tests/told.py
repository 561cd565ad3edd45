"""Webs played as points 7 to 16 tell it, in Python's own fractions and by no means of the program."""

from fractions import Fraction

from tests.helpers import frac, some_fraction, some_strength


class ToldWeb:
    """Joints, rods (start, end, length, strength, twist) and ears (joint, strength), all strengths Fractions."""

    def __init__(self, joints, rods, ears):
        self.joints = list(joints)
        self.rods = [tuple(rod) if len(rod) == 5 else tuple(rod) + (1,) for rod in rods]
        self.ears = list(ears)
        self.cells = sum(2 * rod[2] for rod in self.rods)

    def passed(self):
        """The arguments with which the program makes this web."""
        rods = [(start, end, length, frac(strength), twist) for start, end, length, strength, twist in self.rods]
        return list(self.joints), rods, [(joint, frac(strength)) for joint, strength in self.ears]

    def split(self, state):
        """For each rod its forth numbers and its back numbers."""
        left = list(state)
        out = []
        for rod in self.rods:
            out.append((left[:rod[2]], left[rod[2]:2 * rod[2]]))
            left = left[2 * rod[2]:]
        return out

    def joint_arms(self, joint):
        out = []
        for number, rod in enumerate(self.rods):
            out += [("start", number)] * (rod[0] == joint) + [("end", number)] * (rod[1] == joint)
        return out + [("ear", number) for number, ear in enumerate(self.ears) if ear[0] == joint]

    def strength(self, arm):
        side, number = arm
        return self.ears[number][1] if side == "ear" else self.rods[number][3]

    def arriving(self, arm, state, knocks):
        side, number = arm
        if side == "ear":
            return knocks[number]
        forth, backs = self.split(state)[number]
        return self.rods[number][4] * (forth if side == "end" else backs)[-1]

    def scattered(self, joint, state, knocks):
        """The common number of a joint, and what leaves at each of its arms."""
        arms = self.joint_arms(joint)
        if not arms:
            return Fraction(0), {}
        pairs = [(self.strength(arm), self.arriving(arm, state, knocks)) for arm in arms]
        if self.joints[joint] == "level":
            middle = 2 * sum(z * a for z, a in pairs) / sum(z for z, _ in pairs)
            return middle, {arm: middle - a for arm, (_, a) in zip(arms, pairs)}
        middle = 2 * sum(a for _, a in pairs) / sum(1 / z for z, _ in pairs)
        return middle, {arm: a - middle / z for arm, (z, a) in zip(arms, pairs)}

    def tick(self, state, knocks):
        leaving = {}
        for joint in range(len(self.joints)):
            leaving.update(self.scattered(joint, state, knocks)[1])
        new = []
        for number, (forth, backs) in enumerate(self.split(state)):
            new += [leaving["start", number]] + forth[:-1] + [leaving["end", number]] + backs[:-1]
        return new, [leaving["ear", number] for number in range(len(self.ears))]

    def commons(self, state, knocks):
        return [self.scattered(joint, state, knocks)[0] for joint in range(len(self.joints))]

    def cell_strengths(self):
        return [rod[3] for rod in self.rods for _ in range(2 * rod[2])]

    def product(self, first, second):
        return sum((z * x * y for z, x, y in zip(self.cell_strengths(), first, second)), Fraction(0))

    def heard_energy(self, numbers):
        return sum((ear[1] * x * x for ear, x in zip(self.ears, numbers)), Fraction(0))

    def flip(self, state):
        out = []
        for (forth, backs), rod in zip(self.split(state), self.rods):
            out += [rod[4] * x for x in reversed(backs)] + [rod[4] * x for x in reversed(forth)]
        return out

    def echoes(self, count):
        """For each tick the rows of the echo table."""
        columns = []
        for knocked in range(len(self.ears)):
            state = [Fraction(0)] * self.cells
            knocks = [Fraction(int(ear == knocked)) for ear in range(len(self.ears))]
            told = []
            for _ in range(count):
                state, heard = self.tick(state, knocks)
                told.append(heard)
                knocks = [Fraction(0)] * len(self.ears)
            columns.append(told)
        return [[[columns[b][k][a] for b in range(len(self.ears))] for a in range(len(self.ears))]
                for k in range(count)]


def some_told(draw, joints=4, rods=4, ears=2, length=3):
    """A web with rods wherever they fall: loops, twisted rods and rods side by side among them."""
    kinds = [draw.choice(["level", "stream"]) for _ in range(joints)]
    made = []
    for _ in range(rods if joints else 0):
        made.append((draw.randrange(joints), draw.randrange(joints), draw.randint(1, length), some_strength(draw),
                     draw.choice([1, -1])))
    return ToldWeb(kinds, made, [(draw.randrange(joints), some_strength(draw)) for _ in range(ears if joints else 0)])


def told_webs(draw, count):
    """Some webs with few joints and up to 24 cells, and these: loops, twins, pieces apart, joints without arms."""
    half = Fraction(1, 2)
    yield ToldWeb([], [], [])
    yield ToldWeb(["level"], [], [])
    yield ToldWeb(["stream"], [], [(0, Fraction(3))])
    yield ToldWeb(["level"], [(0, 0, 1, Fraction(2), 1)], [(0, Fraction(1))])
    yield ToldWeb(["stream"], [(0, 0, 2, half, -1)], [(0, Fraction(1)), (0, half)])
    yield ToldWeb(["level", "stream"], [(0, 1, 2, half, 1), (1, 0, 2, half, -1), (0, 1, 1, Fraction(5), -1)],
                  [(1, Fraction(2)), (0, Fraction(2)), (1, Fraction(1, 3))])
    yield ToldWeb(["level", "level", "stream", "stream"], [(0, 1, 1, Fraction(1), 1), (2, 3, 3, Fraction(2), -1)],
                  [(0, Fraction(1)), (3, Fraction(1))])
    yield ToldWeb(["level", "level"], [(0, 1, 12, Fraction(3, 7), -1)], [(0, Fraction(1))])
    yield ToldWeb(["stream"] * 8, [(k, 7 - k, 1, Fraction(k + 1), (-1) ** k) for k in range(8)],
                  [(k, Fraction(k + 1, 2)) for k in range(4)])
    yield ToldWeb(["level", "stream", "level"], [(0, 1, 1, Fraction(1), 1)], [])
    for _ in range(count):
        yield some_told(draw, draw.randint(1, 5), draw.randint(0, 4), draw.randint(0, 4))


def some_state(draw, count):
    return [some_fraction(draw) for _ in range(count)]


class ToldPile:
    """A pile as point 26 tells it, all numbers Fractions."""

    def __init__(self, panes, end=1, strength=Fraction(1)):
        self.panes = list(panes)
        self.end = end
        self.strength = Fraction(strength)
        self.cells = len(self.panes)

    def tick(self, state, knocks):
        downs = [knocks[0]]
        for pane, number in zip(self.panes, state):
            downs.append((1 + pane) * downs[-1] - pane * number)
        ups = [pane * down + (1 - pane) * number for pane, down, number in zip(self.panes, downs, state)]
        ups.append(self.end * downs[-1])
        return ups[1:], ups[:1]

    def cell_strengths(self):
        out, strength = [], self.strength
        for pane in self.panes:
            strength = strength * (1 - pane) / (1 + pane)
            out.append(strength)
        return out

    def product(self, first, second):
        return sum((z * x * y for z, x, y in zip(self.cell_strengths(), first, second)), Fraction(0))

    def echoes(self, count):
        state, knocks, out = [Fraction(0)] * self.cells, [Fraction(1)], []
        for _ in range(count):
            state, heard = self.tick(state, knocks)
            out += heard
            knocks = [Fraction(0)]
        return out


def some_pane(draw, most=9):
    below = draw.randint(2, most)
    return Fraction(draw.randint(1 - below, below - 1), below)


def some_pile(draw, count, most=9):
    return ToldPile([some_pane(draw, most) for _ in range(count)], draw.choice([1, -1]), some_strength(draw))


def heard_alone(told, state, ticks, ears=None):
    """What the ears (all of them for None) hear in so many ticks alone: one flat list."""
    out = []
    count = len(told.ears)
    for _ in range(ticks):
        state, heard = told.tick(state, [Fraction(0)] * count)
        out += heard if ears is None else [heard[ear] for ear in ears]
    return out


def heard_columns(told, ticks, ears=None):
    """For each cell what is heard alone from the state with 1 in it."""
    states = [[Fraction(int(k == cell)) for k in range(told.cells)] for cell in range(told.cells)]
    return [heard_alone(told, state, ticks, ears) for state in states]
