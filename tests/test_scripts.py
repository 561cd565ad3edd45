"""Point 125: perform."""

import unittest

from rodwebs.desk import Desk
from rodwebs.errors import (
    BadCount, BadKind, BadLength, BadSizes, BadStrength, BadTwist, NoDeed, NoJoint, NoMerge, NoRod, NothingToRedo,
    NothingToUndo, Stopped,
)
from rodwebs.fracs import Frac
from rodwebs.leads import Lead
from rodwebs.scripts import perform
from rodwebs.webs import Web
from tests.helpers import Looks
from tests.test_desk import LINE, look, whole_look

HALF = Frac(1, 2)
# One deed of each name, and what it returns, as far as this is a plain value.
DEEDS = [
    ("knock", 3), ("wait", 2), ("add_rod", 1), ("add_rod", 0, "stream"),
    ("add_rod", 2, "stream", 2, HALF), ("add_rod", 2, "level", 1, 5, -1), ("retune", 0, Frac(7, 3)),
    ("set_kind", 1, "stream"), ("move", "split", 0, 1), ("take_off", 1), ("wait", 1), ("undo",), ("knock", HALF),
    ("undo",), ("redo",), ("move", "turn", 0),
]


def some_desk():
    """A desk with deeds that can be undone and such that can be done again."""
    desk = Desk(LINE, [1, 2, 3, 4, 5, 6])
    desk.limit = 30
    for number in range(4):
        desk.knock(number)
    desk.undo()
    desk.undo()
    return desk


def done(desk, deed):
    """A deed, done by its method."""
    name, *told = deed
    if name == "add_rod":
        return desk.add_rod(told[0], **dict(zip(("kind", "length", "strength", "twist"), told[1:])))
    return getattr(desk, name)(*told)


class Scripts(Looks, unittest.TestCase):
    def stopped(self, desk, deeds, at, error, told):
        """The script is stopped there by this error, and the desk is in every respect as it was."""
        before = whole_look(desk)
        caught = self.refused(Stopped, {"at": at}, perform, desk, deeds)
        cause = caught.__cause__
        self.assertIs(type(cause), error)
        for name, wanted in told.items():
            self.assertEqual(getattr(cause, name), wanted)
        self.assertEqual(whole_look(desk), before)

    def test_all_deeds(self):
        desk, other = some_desk(), some_desk()
        given = perform(desk, DEEDS)
        self.assertIs(type(given), list)
        wanted = [done(other, deed) for deed in DEEDS]
        self.assertEqual(len(given), len(DEEDS))
        for one, two in zip(given, wanted):
            self.assertIs(type(one), type(two))
            if isinstance(one, Lead):
                self.assertEqual((one.table, one.first, one.second), (two.table, two.first, two.second))
            else:
                self.assertEqual(one, two)
        self.assertEqual(whole_look(desk), whole_look(other))
        self.assertEqual([type(part) for part in given[:3]], [list, list, int])

    def test_rods_left_out(self):
        """What is left out is a level joint, the length 1, the strength 1 and the twist 1."""
        desk = Desk(Web(["level"]))
        perform(desk, [("add_rod", 0), ("add_rod", 0, "stream"), ("add_rod", 0, "stream", 2),
                       ("add_rod", 0, "stream", 2, 3), ("add_rod", 0, "stream", 2, 3, -1)])
        self.assertEqual(desk.web_now(), Web(
            ["level", "level"] + ["stream"] * 4,
            [(0, 1, 1, 1), (0, 2, 1, 1), (0, 3, 2, 1), (0, 4, 2, 3), (0, 5, 2, 3, -1)]))

    def test_no_deeds(self):
        desk = some_desk()
        before = whole_look(desk)
        self.assertEqual(perform(desk, []), [])
        self.assertEqual(perform(desk, ()), [])
        self.assertEqual(whole_look(desk), before)

    def test_older_deeds(self):
        """Deeds that are older than the list are undone and done again, too."""
        desk = some_desk()
        self.assertEqual(perform(desk, [("redo",), ("redo",), ("undo",), ("undo",), ("undo",)]), ["knock"] * 5)
        self.assertEqual(desk.knock_lists(), [[0]])
        self.assertEqual(perform(desk, [("redo",)] * 3), ["knock"] * 3)
        self.assertEqual(desk.knock_lists(), [[0], [1], [2], [3]])

    def test_stopped_at_each_place(self):
        for at in range(len(DEEDS) + 1):
            self.stopped(some_desk(), DEEDS[:at] + [("take_off", 9)] + DEEDS[at:], at, NoRod, {"rod": 9})

    def test_stopped_by_each_error(self):
        desk = some_desk()
        for deed, error, told in (
                (("knock",), BadSizes, {"given": 0, "wanted": 1}), (("knock", 1, 2), BadSizes, {"given": 2, "wanted": 1}),
                (("wait", 0), BadCount, {"count": 0}), (("wait", 51), BadCount, {"count": 51}),
                (("add_rod", 3), NoJoint, {"joint": 3}), (("add_rod", 0, "wrong", 0), BadKind, {"kind": "wrong"}),
                (("add_rod", 0, "level", 0, 0), BadLength, {"length": 0}),
                (("add_rod", 0, "level", 1, 0, 0), BadStrength, {"strength": 0}),
                (("add_rod", 0, "level", 1, 1, 0), BadTwist, {"twist": 0}), (("take_off", -1), NoRod, {"rod": -1}),
                (("retune", 0, 0), BadStrength, {"strength": 0}), (("set_kind", 0, ""), BadKind, {"kind": ""}),
                (("move", "merge", 0), NoMerge, {"joint": 0}), (("move", "wrong"), NoDeed, {"name": "wrong"}),
                (("",), NoDeed, {"name": ""}), (("trial",), NoDeed, {"name": "trial"}), (("Knock", 1), NoDeed, {"name": "Knock"}),
                (("set_limit", 3), NoDeed, {"name": "set_limit"}), (("book",), NoDeed, {"name": "book"})):
            self.stopped(desk, [deed], 0, error, told)
            self.stopped(desk, [("knock", 1), ("undo",), deed, ("also wrong",)], 2, error, told)

    def test_stopped_behind_undo_and_redo(self):
        desk = some_desk()
        self.stopped(desk, [("undo",)] * 3, 2, NothingToUndo, {})
        self.stopped(desk, [("redo",)] * 3, 2, NothingToRedo, {})
        self.stopped(desk, [("undo",), ("knock", 7), ("redo",)], 2, NothingToRedo, {})
        self.stopped(desk, [("undo",), ("undo",), ("wait", 1), ("undo",), ("undo",)], 4, NothingToUndo, {})

    def test_stopped_with_forgotten_deeds(self):
        desk = some_desk()
        desk.limit = 2
        self.stopped(desk, [("knock", 1), ("knock", 2), ("knock", 3), ("wait", 99)], 3, BadCount, {"count": 99})
        self.assertEqual(len(desk), 2)
        self.assertEqual([desk.redo(), desk.redo()], ["knock", "knock"])

    def test_looked_at_in_their_turn(self):
        """A deed may need what an earlier one has made."""
        desk = Desk(LINE)
        self.assertEqual(perform(desk, [("add_rod", 2), ("retune", 2, 5), ("take_off", 2)]), [2, None, None])
        self.stopped(desk, [("retune", 2, 5), ("add_rod", 2)], 0, NoRod, {"rod": 2})

    def test_inside_a_trial(self):
        desk = some_desk()
        before = whole_look(desk)
        with desk.trial() as same:
            perform(same, DEEDS)
            self.refused(Stopped, {"at": 1}, perform, same, [("knock", 1), ("wrong",)])
            self.assertEqual(len(same), len([deed for deed in DEEDS if deed[0] not in ("undo", "redo")]) + 1)
        self.assertEqual(whole_look(desk), before)

    def test_no_argument_changes(self):
        deeds = [["knock", 1], ("move", "renumber", [2, 1, 0])]
        desk = some_desk()
        perform(desk, deeds)
        self.assertEqual(deeds, [["knock", 1], ("move", "renumber", [2, 1, 0])])
        self.assertEqual(look(desk)["ticks"], 3)


if __name__ == "__main__":
    unittest.main()
