"""Points 122, 123 and 124, with points 4, 44 and 45: Desk."""

import unittest
from fractions import Fraction

from rodwebs.desk import Desk
from rodwebs.errors import (
    BadCount, BadKind, BadLength, BadOrder, BadSizes, BadStrength, BadTwist, NoDeed, NoJoint, NoMerge, NoRod, NoSlide,
    NothingToRedo, NothingToUndo, NoTwin, TooLarge,
)
from rodwebs.fracs import Frac
from rodwebs.leads import Lead
from rodwebs.moves import merge, renumber, split, turn, twin
from rodwebs.slides import slide, unslide
from rodwebs.webs import Web
from tests.helpers import Looks, exact, fracs, source
from tests.players import TOLD, web_of
from tests.told import ToldWeb, some_state

WEB = web_of(TOLD)
HALF = Frac(1, 2)
LINE = Web(["level"] * 3, [(0, 1, 2, 2), (1, 2, 1, 2, -1)], [(0, 1)])
MOVES = {"turn": turn, "renumber": renumber, "split": split, "merge": merge, "twin": twin, "slide": slide,
         "unslide": unslide}


def look(desk):
    """All that can be seen of a desk without changing it, in values that can be compared."""
    web = desk.web_now()
    return {"web": (web.joints, web.rods, web.ear_list), "state": desk.state_now(), "knocks": desk.knock_lists(),
            "heard": desk.heard_lists(), "book": desk.book(), "names": list(desk), "count": len(desk),
            "energy": desk.energy_left, "ticks": desk.tick_count, "limit": desk.limit}


def whole_look(desk):
    """What can be seen, and what deeds can be undone and done again, each with what is seen then."""
    seen = [look(desk)]
    with desk.trial():
        while True:
            try:
                seen.append((desk.redo(), look(desk)))
            except NothingToRedo:
                break
    with desk.trial():
        while len(desk):
            seen.append((desk.undo(), look(desk)))
    return seen


def told_of(web):
    return ToldWeb(web.joints, [(*rod[:3], exact(rod[3]), rod[4]) for rod in web.rods],
                   [(joint, exact(strength)) for joint, strength in web.ear_list])


class Model:
    """A desk as points 44, 45 and 123 tell it, worked out by the test itself; moves are taken from their leads."""

    def __init__(self, web, state):
        self.told, self.state = told_of(web), exact(state)
        self.knocks, self.heard, self.changed = [], [], Fraction(0)
        self.first = self.energy()

    def energy(self):
        return self.told.product(self.state, self.state)

    def knock(self, *knocks):
        self.state, heard = self.told.tick(self.state, exact(knocks))
        self.knocks.append(exact(knocks))
        self.heard.append(heard)
        return heard

    def wait(self, ticks):
        return [self.knock(*[0] * len(self.told.ears)) for _ in range(ticks)]

    def change(self, joints, rods, state, ears=None):
        ahead = self.energy()
        self.told, self.state = ToldWeb(joints, rods, ears or self.told.ears), state
        self.changed += self.energy() - ahead

    def add_rod(self, joint, kind="level", length=1, strength=1, twist=1):
        told = self.told
        rods = told.rods + [(joint, len(told.joints), length, exact(strength), twist)]
        self.change(told.joints + [kind], rods, self.state + [Fraction(0)] * (2 * length))
        return len(rods) - 1

    def take_off(self, rod):
        pairs = self.told.split(self.state)
        del pairs[rod]
        self.change(self.told.joints, self.told.rods[:rod] + self.told.rods[rod + 1:],
                    [x for forth, backs in pairs for x in forth + backs])

    def retune(self, rod, strength):
        rods = list(self.told.rods)
        rods[rod] = (*rods[rod][:3], exact(strength), rods[rod][4])
        self.change(self.told.joints, rods, self.state)

    def set_kind(self, joint, kind):
        joints = list(self.told.joints)
        joints[joint] = kind
        self.change(joints, self.told.rods, self.state)

    def move(self, name, *arguments):
        lead = MOVES[name](web_of(self.told), *arguments)
        told = told_of(lead.second)
        self.change(told.joints, told.rods, exact(lead(fracs(self.state))), told.ears)
        return lead

    def look(self):
        def loud(lists):
            return sum((self.told.heard_energy(numbers) for numbers in lists), Fraction(0))
        return (web_of(self.told), self.state, self.knocks, self.heard,
                [loud(self.knocks), self.changed, loud(self.heard), self.energy()])


class Desks(Looks, unittest.TestCase):
    def like(self, desk, model):
        web, state, knocks, heard, book = model.look()
        self.assertEqual(desk.web_now(), web)
        for given, wanted in ((desk.state_now(), state), (desk.knock_lists(), knocks), (desk.heard_lists(), heard),
                              (desk.book(), book)):
            self.same(given, wanted)
        self.one(desk.energy_left, book[3])
        self.assertEqual((desk.tick_count, type(desk.tick_count)), (len(knocks), int))
        # The book.
        self.assertEqual(model.first + book[0] + book[1], book[2] + book[3])

    def do(self, desk, model, name, *arguments, **named):
        """A deed on the desk and on the model; both return the same."""
        count = len(desk)
        given = getattr(desk, name)(*arguments, **named)
        wanted = getattr(model, name)(*arguments, **named)
        if name == "move":
            self.assertIs(type(given), Lead)
            self.assertEqual((given.table, given.second), (wanted.table, wanted.second))
        elif name in ("knock", "wait"):
            self.assertIs(type(given), list)
            self.same(given, wanted)
        else:
            self.assertEqual(given, wanted)
            self.assertIs(type(given), type(wanted))
        self.like(desk, model)
        self.assertEqual((len(desk), list(desk)[-1]), (min(count + 1, desk.limit), name))


class Making(Desks):
    def test_at_first(self):
        desk = Desk(WEB)
        self.assertIs(desk.web_now(), WEB)
        self.like(desk, Model(WEB, [0] * 8))
        self.assertEqual((list(desk), len(desk), desk.tick_count), ([], 0, 0))
        self.assertEqual((desk.knock_lists(), desk.heard_lists(), desk.limit), ([], [], 100))
        self.assertIs(type(desk.limit), int)
        self.assertIs(type(desk.book()), tuple)
        self.assertEqual(desk.book(), (0, 0, 0, 0))
        self.all_fracs(desk.book())
        self.assertIs(type(desk.state_now()), list)
        self.assertEqual(Desk(Web()).state_now(), [])

    def test_state(self):
        state = [1, HALF, 0, 0, 0, 0, 0, -2]
        for given in (state, tuple(state)):
            desk = Desk(WEB, given)
            self.like(desk, Model(WEB, state))
            self.assertEqual(desk.book(), (0, 0, 0, WEB.energy(state)))
        desk = Desk(WEB, state=state)
        state[0] = 7
        self.assertEqual(desk.state_now()[0], 1)
        desk.state_now()[0] = 8
        self.assertEqual(desk.state_now()[0], 1)
        for given in (0, 7, 9):
            self.refused(BadSizes, {"given": given, "wanted": 8}, Desk, WEB, [0] * given)

    def test_no_sign_of_truth(self):
        """A desk without deeds is a desk, too."""
        self.assertEqual(len(Desk(WEB)), 0)
        self.assertEqual([list(Desk(WEB)), tuple(Desk(WEB))], [[], ()])


class Deeds(Desks):
    def test_each(self):
        draw = source(1220)
        start = fracs(some_state(draw, 6))
        desk, model = Desk(LINE, start), Model(LINE, start)
        looks = [look(desk)]
        deeds = [
            ("knock", (3,)), ("wait", (2,)), ("add_rod", (1,)), ("wait", (3,)), ("retune", (0, Frac(7, 2))),
            ("knock", (HALF,)), ("set_kind", (2, "stream")), ("wait", (1,)), ("take_off", (1,)), ("wait", (4,)),
            ("add_rod", (0, "stream", 2, Frac(3, 5), -1)), ("move", ("split", 0, 1)), ("knock", (-4,)),
            ("move", ("turn", 1)), ("move", ("renumber", [2, 0, 1, 3, 4, 5])), ("wait", (2,)), ("move", ("merge", 5)),
            ("knock", (0,)), ("set_kind", (0, "level")), ("retune", (0, Frac(7, 2))), ("add_rod", (0,)),
            ("add_rod", (0, "level", 1, 5)), ("wait", (1,)), ("take_off", (0,)), ("wait", (50,)),
        ]
        for name, arguments in deeds:
            if name == "add_rod":
                named = dict(zip(("kind", "length", "strength", "twist"), arguments[1:]))
                self.do(desk, model, name, arguments[0], **named)
            else:
                self.do(desk, model, name, *arguments)
            looks.append(look(desk))
        names = [name for name, _ in deeds]
        self.assertEqual(list(desk), names)
        self.assertEqual([name for name in desk], names)
        self.assertGreater(abs(desk.book()[1]), 0)
        for at in reversed(range(len(deeds))):
            self.assertEqual(desk.undo(), names[at])
            self.assertEqual(look(desk), looks[at])
        self.refused(NothingToUndo, {}, desk.undo)
        for at, name in enumerate(names):
            self.assertEqual(desk.redo(), name)
            self.assertEqual(look(desk), looks[at + 1])
        self.refused(NothingToRedo, {}, desk.redo)
        self.like(desk, model)

    def test_moves(self):
        """Every move takes the state along by its lead, and nobody hears it."""
        draw = source(1221)
        stub = Web(["level"] * 4, [(0, 2, 1, 2), (1, 0, 1, 3, -1), (1, 3, 2, 1), (0, 3, 1, 1), (3, 0, 1, 4)],
                   [(3, 1), (0, 2)])
        start = fracs(some_state(draw, stub.cells))
        desk, model, still = Desk(stub, start), Model(stub, start), Model(stub, start)
        moves = [("slide", 0, 1), ("turn", 3), ("unslide", 0, 1), ("split", 2, 1), ("twin", 4, 3), ("merge", 4),
                 ("renumber", (3, 2, 1, 0)), ("turn", 0)]
        for move in moves:
            self.do(desk, model, "move", *move)
            knocks = fracs(some_state(draw, 2))
            self.do(desk, model, "knock", *knocks)
            self.same(desk.heard_lists()[-1], still.knock(*knocks))
        self.assertEqual(set(desk), {"move", "knock"})
        # Only twins lose something: the difference that was silent.
        self.assertLess(desk.book()[1], 0)
        with desk.trial():
            for _ in range(8):
                desk.undo()
            self.assertEqual(desk.book()[1], 0)
        while len(desk):
            desk.undo()
        self.assertEqual((desk.web_now(), desk.state_now()), (stub, start))

    def test_returned(self):
        desk = Desk(LINE)
        self.same(desk.knock(2), [Fraction(-2, 3)])
        heard = desk.wait(3)
        self.assertEqual([type(numbers) for numbers in heard], [list] * 3)
        self.assertEqual(desk.heard_lists()[1:], heard)
        heard[0][0] = desk.knock_lists()[0][0] = desk.heard_lists()[0][0] = 9
        self.assertEqual(desk.knock_lists(), [[2], [0], [0], [0]])
        self.assertNotIn(9, [numbers[0] for numbers in desk.heard_lists()])
        self.assertEqual([desk.add_rod(2), desk.add_rod(0)], [2, 3])
        self.assertEqual([desk.take_off(2), desk.retune(0, 5), desk.set_kind(0, "stream"), desk.set_limit(3)],
                         [None] * 4)
        lead = desk.move("turn", 0)
        self.assertEqual(lead.second, desk.web_now())
        self.assertIs(type(desk.undo()), str)

    def test_no_ears(self):
        desk = Desk(Web(["level"] * 2, [(0, 1, 1, 1)]), [1, 0])
        self.assertEqual([desk.knock(), desk.wait(2)], [[], [[], []]])
        self.assertEqual((desk.state_now(), desk.knock_lists()), ([0, 1], [[], [], []]))

    def test_edges(self):
        desk = Desk(LINE)
        self.assertEqual(len(desk.wait(50)), 50)
        self.assertEqual(len(desk.wait(1)), 1)
        for _ in range(10):
            desk.wait(50)
        self.assertEqual((desk.tick_count, len(desk.heard_lists()), len(desk)), (551, 551, 12))
        desk.add_rod(0, length=9)
        self.assertEqual(desk.web_now().cells, 24)
        desk.undo()
        for k in range(5):
            desk.add_rod(k)
        self.assertEqual((len(desk.web_now().joints), len(desk.web_now().rods)), (8, 7))

    def test_deeds_that_change_nothing(self):
        desk = Desk(LINE, [1, 2, 3, 4, 5, 6])
        before = look(desk)
        desk.retune(0, 2)
        desk.set_kind(1, "level")
        desk.move("renumber", [0, 1, 2])
        self.assertEqual(list(desk), ["retune", "set_kind", "move"])
        after = look(desk)
        self.assertEqual({**after, "names": [], "count": 0}, before)


class Refused(Desks):
    def refuses(self, desk, error, told, name, *arguments, **named):
        """The deed is refused, and nothing at all has changed."""
        before = whole_look(desk)
        caught = self.refused(error, told, getattr(desk, name), *arguments, **named)
        self.assertEqual(whole_look(desk), before)
        return caught

    def some_desk(self):
        desk = Desk(LINE, [1, 2, 3, 4, 5, 6])
        desk.knock(5)
        desk.set_kind(1, "stream")
        desk.wait(2)
        desk.undo()
        return desk

    def test_knock_and_wait(self):
        desk = self.some_desk()
        for count in (0, 2, 5):
            self.refuses(desk, BadSizes, {"given": count, "wanted": 1}, "knock", *[1] * count)
        for ticks in (0, 51, -1, 10 ** 30):
            self.refuses(desk, BadCount, {"count": ticks}, "wait", ticks)

    def test_add_rod(self):
        desk = self.some_desk()
        for joint in (3, -1, 10 ** 30):
            self.refuses(desk, NoJoint, {"joint": joint}, "add_rod", joint, kind="", length=0, strength=0, twist=0)
        for kind in ("", "Level"):
            self.refuses(desk, BadKind, {"kind": kind}, "add_rod", 0, kind=kind, length=0, strength=0, twist=0)
        for length in (0, 13, -1):
            self.refuses(desk, BadLength, {"length": length}, "add_rod", 0, length=length, strength=0, twist=0)
        for strength in (0, -1, Frac(-1, 2)):
            error = self.refuses(desk, BadStrength, {"strength": strength}, "add_rod", 0, strength=strength, twist=0)
            self.assertIs(error.strength, strength)
        for twist in (0, 2, -2):
            self.refuses(desk, BadTwist, {"twist": twist}, "add_rod", 0, length=12, twist=twist)
        self.refuses(desk, TooLarge, {"size": 26}, "add_rod", 0, length=10)
        self.refuses(Desk(Web(["level"] * 8)), BadCount, {"count": 9}, "add_rod", 0, length=12)
        self.refuses(Desk(Web(["level"] * 8)), BadTwist, {"twist": 3}, "add_rod", 0, length=12, twist=3)
        self.refuses(Desk(Web(["level"] * 8)), BadStrength, {"strength": 0}, "add_rod", 0, strength=0, twist=3)
        rods = Web(["level"], [(0, 0, 1, 1)] * 8)
        self.refuses(Desk(rods), BadCount, {"count": 9}, "add_rod", 0, length=12)
        self.refuses(Desk(Web(["level"] * 8, [(0, 0, 1, 1)] * 8)), BadCount, {"count": 9}, "add_rod", 0)
        self.refuses(Desk(Web()), NoJoint, {"joint": 0}, "add_rod", 0)

    def test_changes_of_rods_and_joints(self):
        desk = self.some_desk()
        for rod in (2, -1, 10 ** 30):
            self.refuses(desk, NoRod, {"rod": rod}, "take_off", rod)
            self.refuses(desk, NoRod, {"rod": rod}, "retune", rod, 0)
        for strength in (0, Frac(-2, 3)):
            error = self.refuses(desk, BadStrength, {"strength": strength}, "retune", 1, strength)
            self.assertIs(error.strength, strength)
        for joint in (3, -1, 10 ** 30):
            self.refuses(desk, NoJoint, {"joint": joint}, "set_kind", joint, "wrong")
        for kind in ("", "wrong"):
            self.refuses(desk, BadKind, {"kind": kind}, "set_kind", 0, kind)

    def test_moves(self):
        desk = self.some_desk()
        for name in ("", "knock", "Turn", "cut", "undo", "move"):
            self.refuses(desk, NoDeed, {"name": name}, "move", name)
            self.refuses(desk, NoDeed, {"name": name}, "move", name, 1, 2, 3)
        self.refuses(desk, NoRod, {"rod": 2}, "move", "turn", 2)
        self.refuses(desk, BadOrder, {}, "move", "renumber", [0, 1, 1])
        self.refuses(desk, BadLength, {"length": 2}, "move", "split", 0, 2)
        self.refuses(desk, NoMerge, {"joint": 1}, "move", "merge", 1)
        self.refuses(desk, NoTwin, {"first": 1, "second": 0}, "move", "twin", 1, 0)
        self.refuses(desk, NoSlide, {"stub": 0, "rod": 1}, "move", "slide", 0, 1)
        self.refuses(desk, NoSlide, {"stub": 1, "rod": 1}, "move", "unslide", 1, 1)

    def test_undo_and_redo(self):
        self.refuses(Desk(LINE), NothingToUndo, {}, "undo")
        self.refuses(Desk(LINE), NothingToRedo, {}, "redo")
        desk = Desk(LINE)
        desk.knock(1)
        self.refuses(desk, NothingToRedo, {}, "redo")
        desk.undo()
        self.refuses(desk, NothingToUndo, {}, "undo")


class Undoing(Desks):
    def test_new_deeds_forget_what_was_undone(self):
        desk = Desk(LINE)
        desk.knock(1)
        desk.knock(2)
        desk.undo()
        desk.knock(3)
        self.assertEqual(desk.knock_lists(), [[1], [3]])
        self.refused(NothingToRedo, {}, desk.redo)
        desk.undo()
        desk.undo()
        self.assertEqual([desk.redo(), desk.redo()], ["knock", "knock"])
        self.assertEqual(desk.knock_lists(), [[1], [3]])
        for deed in (lambda: desk.wait(1), lambda: desk.retune(0, 2), lambda: desk.move("turn", 0)):
            desk.undo()
            deed()
            self.refused(NothingToRedo, {}, desk.redo)

    def test_refused_deeds_forget_nothing(self):
        desk = Desk(LINE)
        desk.knock(1)
        desk.undo()
        self.refused(BadCount, {"count": 0}, desk.wait, 0)
        self.assertEqual(desk.redo(), "knock")

    def test_at_most_a_hundred(self):
        desk = Desk(Web(["level"], [], [(0, 1)]))
        for number in range(103):
            desk.knock(number)
        self.assertEqual((len(desk), desk.tick_count), (100, 103))
        for _ in range(100):
            desk.undo()
        self.refused(NothingToUndo, {}, desk.undo)
        self.assertEqual((desk.knock_lists(), desk.tick_count), ([[0], [1], [2]], 3))
        for _ in range(100):
            desk.redo()
        self.assertEqual((len(desk), desk.tick_count), (100, 103))


class Limits(Desks):
    def some_desk(self, count):
        desk = Desk(Web(["level"], [], [(0, 1)]))
        for number in range(count):
            desk.knock(number)
        return desk

    def test_set(self):
        desk = self.some_desk(5)
        desk.limit = 3
        self.assertEqual((desk.limit, len(desk), desk.tick_count), (3, 3, 5))
        desk.knock(7)
        self.assertEqual((len(desk), desk.tick_count), (3, 6))
        for _ in range(3):
            desk.undo()
        self.refused(NothingToUndo, {}, desk.undo)
        self.assertEqual(desk.knock_lists(), [[0], [1], [2]])
        self.assertIsNone(desk.set_limit(100))
        self.assertEqual((desk.limit, len(desk)), (100, 0))
        for _ in range(3):
            desk.redo()
        self.assertEqual((desk.knock_lists()[3:], len(desk)), ([[3], [4], [7]], 3))

    def test_lower_with_deeds_to_do_again(self):
        """They do not count, and are not forgotten; done again, they make the oldest ones be forgotten."""
        desk = self.some_desk(5)
        for _ in range(3):
            desk.undo()
        desk.set_limit(2)
        self.assertEqual(len(desk), 2)
        desk.limit = 1
        self.assertEqual((len(desk), desk.tick_count), (1, 2))
        self.assertEqual([desk.redo(), desk.redo(), desk.redo()], ["knock"] * 3)
        self.assertEqual((len(desk), desk.tick_count), (1, 5))
        desk.undo()
        self.refused(NothingToUndo, {}, desk.undo)
        self.assertEqual((desk.tick_count, desk.redo(), desk.tick_count), (4, "knock", 5))

    def test_none(self):
        desk = self.some_desk(2)
        desk.undo()
        desk.limit = 0
        self.assertEqual((len(desk), list(desk), desk.limit, desk.tick_count), (0, [], 0, 1))
        self.refused(NothingToUndo, {}, desk.undo)
        self.assertEqual(desk.redo(), "knock")
        self.assertEqual((len(desk), desk.knock_lists()), (0, [[0], [1]]))
        desk.wait(3)
        desk.add_rod(0)
        self.assertEqual((len(desk), desk.tick_count), (0, 5))
        desk.set_limit(1)
        desk.knock(1)
        self.assertEqual(list(desk), ["knock"])

    def test_setting_is_no_deed(self):
        desk = self.some_desk(2)
        desk.undo()
        desk.limit = 50
        desk.set_limit(60)
        self.assertEqual((len(desk), desk.redo(), desk.limit), (1, "knock", 60))

    def test_refused(self):
        desk = self.some_desk(3)
        desk.undo()
        before = whole_look(desk)
        for limit in (-1, 101, 10 ** 30):
            self.refused(BadCount, {"count": limit}, desk.set_limit, limit)
            self.refused(BadCount, {"count": limit}, setattr, desk, "limit", limit)
            self.assertEqual(whole_look(desk), before)
        for limit in (100, 0):
            desk.limit = limit
            self.assertEqual(desk.limit, limit)


class Trials(Desks):
    def some_desk(self):
        desk = Desk(LINE, [1, 2, 3, 4, 5, 6])
        desk.limit = 4
        for number in range(6):
            desk.knock(number)
        desk.undo()
        desk.undo()
        return desk

    def change(self, desk):
        """Deeds of several kinds, also older ones undone, and the limit."""
        desk.undo()
        desk.redo()
        desk.undo()
        desk.undo()
        desk.knock(9)
        desk.add_rod(0)
        desk.take_off(0)
        desk.move("turn", 0)
        desk.limit = 2
        desk.wait(3)
        desk.undo()

    def test_plain_end(self):
        desk = self.some_desk()
        before = whole_look(desk)
        with desk.trial() as same:
            self.assertIs(same, desk)
            self.change(same)
            self.assertNotEqual(look(desk), before[0])
        self.assertEqual(whole_look(desk), before)
        self.assertEqual([desk.redo(), desk.redo()], ["knock"] * 2)
        self.assertEqual(desk.knock_lists(), [[k] for k in range(6)])

    def test_error(self):
        desk = self.some_desk()
        before = whole_look(desk)
        for error in (KeyError, NoRod):
            with self.assertRaises(error):
                with desk.trial():
                    self.change(desk)
                    if error is NoRod:
                        desk.take_off(9)
                    raise KeyError()
            self.assertEqual(whole_look(desk), before)

    def test_entered_later(self):
        """The desk comes back to what it was when the with statement was entered, not when the trial was made."""
        desk = self.some_desk()
        trial = desk.trial()
        desk.knock(8)
        before = whole_look(desk)
        with trial:
            self.change(desk)
        self.assertEqual(whole_look(desk), before)

    def test_left_inside_a_function(self):
        desk = self.some_desk()
        before = whole_look(desk)

        def heard():
            with desk.trial() as same:
                return same.wait(3)

        self.assertEqual(len(heard()), 3)
        self.assertEqual(heard(), heard())
        self.assertEqual(whole_look(desk), before)

    def test_one_after_another(self):
        desk = self.some_desk()
        for _ in range(3):
            with desk.trial():
                desk.knock(1)
        self.assertEqual(desk.tick_count, 4)

    def test_two_desks(self):
        one, other = self.some_desk(), self.some_desk()
        with one.trial():
            other.knock(5)
        self.assertEqual((one.tick_count, other.tick_count), (4, 5))


class Looking(Desks):
    def test_iteration(self):
        desk = Desk(LINE)
        desk.knock(1)
        desk.wait(1)
        names = []
        for name in desk:
            names.append(name)
            desk.set_kind(0, "level")
        self.assertEqual(names, ["knock", "wait"])
        self.assertEqual(len(desk), 4)

    def test_webs_stay(self):
        web = Web(LINE.joints, LINE.rods, LINE.ear_list)
        desk = Desk(web)
        desk.retune(0, 9)
        desk.move("turn", 1)
        desk.set_kind(0, "stream")
        desk.add_rod(0)
        self.assertEqual(web, LINE)


if __name__ == "__main__":
    unittest.main()
