"""The interface: every name, argument and keyword as the document writes it, defined where it is listed."""

import importlib
import inspect
import unittest

from rodwebs.players import Player

# For each module its functions and classes; for each class its methods, with their parameters behind self.
# A parameter behind "*" is passed by keyword; "=.." is what is passed if it is left out.
FUNCTIONS = {
    "solving": {"solve": "table, values", "least_solution": "table, values, form", "dip": "form", "below": "form"},
    "joints": {"scatter": "kind, strengths, arriving", "common": "kind, strengths, arriving"},
    "reading": {"format_web": "web", "parse_web": "text"},
    "ways": {"distances": "web, joint", "ear_distance": "web, first, second", "pieces": "web",
             "odd_round": "web, ear"},
    "shapes": {"dual": "web", "stretched": "web, times", "scaled": "web, factor",
               "re_eared": "web, ear, strength", "with_ear": "web, joint, strength", "without_ear": "web, ear",
               "ears_ordered": "web, order", "side_by_side": "*webs"},
    "runs": {"play": "player, start, knocks", "echoes": "player, count",
             "echo": "player, count, *, heard=0, knocked=0", "sounded": "echoes, knocks",
             "play_back": "player, end, heard", "mirrored": "record"},
    "heardparts": {"unheard": "player, ticks, *, ears=None", "silent": "player, *, ears=None",
                   "heard_space": "player", "parted": "player, state", "heard_part": "player"},
    "tellback": {"inside_table": "strengths, echoes", "told_back": "strengths, echoes",
                 "inside_product": "strengths, echoes, first, second", "determinant": "echoes"},
    "endless": {"stay": "player, state", "heard_for_ever": "player, state, ear", "portions": "player"},
    "peeling": {"peel": "numbers", "pile_of": "player", "begins": "numbers", "next_stretch": "numbers"},
    "quiet": {"step_numbers": "bottom, size", "quiet": "bottom, size", "quiet_form": "bottom, size",
              "noise": "bottom, size", "pile_of_bottom": "bottom, size, *, end=1"},
    "answers": {"answer": "player, count", "resistance": "player, count", "echo_of_answer": "answer, strength",
                "hang": "web, joint, branch, *, copies=1"},
    "bushes": {"bushes_alike": "one, other"},
    "told": {"told_space": "player, ticks, *, ears=None", "tell": "player, measure, ticks, *, ears=None",
             "least_tick": "player, measure, *, ears=None", "together": "player, ticks, *groups",
             "in_common": "player, ticks, *groups", "fewest_ears": "player"},
    "steering": {"reach": "player, ticks", "steer": "player, wish, ticks", "hush": "player, state, ticks",
                 "least_hush": "player, state", "put_in_unheard": "web, wish, ticks"},
    "explaining": {"explanation": "player, heard, *, knocks=None"},
    "rounds": {"period": "player, state", "come_round": "player, knocks"},
    "alike": {"first_difference": "one, other", "alike": "one, other", "compare": "one, other",
              "lead_between": "one, other"},
    "folds": {"classes": "web", "fold": "web"},
    "sheets": {"sheets": "web, count, shuffles"},
    "doubles": {"parted_at": "web, joints", "doubled": "web, joints"},
    "discount": {"discounted": "player, value", "discounted_at_rest": "web, value",
                 "discounted_start": "player, state, value"},
    "moves": {"turn": "web, rod", "renumber": "web, order", "split": "web, rod, at", "merge": "web, joint",
              "twin": "web, first, second"},
    "slides": {"slide": "web, stub, rod", "unslide": "web, stub, rod"},
    "joins": {"linked_web": "webs, links", "cut": "web, rod", "closed": "web, ear, kind, *, length=1",
              "behind": "web, length, strength"},
    "scripts": {"perform": "desk, deeds"},
    "firsts": {"earliest": "web, joints, heard, knocked", "first_change": "one, other, heard, knocked, within"},
    "checker": {"accepts": "paper"},
}
CLASSES = {
    "fracs": {"Frac": {"__init__": "num=0, den=1", "over": "b", "of": "value", "read": "text"}},
    "tables": {"Table": {"__init__": "rows, *, width=None", "transposed": "", "column": "j", "rank": "",
                         "inverse": "", "unit": "size", "zero": "height, width", "diagonal": "numbers"}},
    "spaces": {"Space": {"__init__": "size, *lists", "whole": "size", "kernel": "table", "image": "table",
                         "across": "form", "parts": "numbers, form"}},
    "powers": {"Powers": {"__init__": "numbers", "delayed": "ticks", "cut": "count"}},
    "polys": {"Poly": {"__init__": "coefficients", "reversed_to": "size", "powers": "count", "common": "a, b"}},
    "ratios": {"Ratio": {"__init__": "top, bottom", "over": "b", "powers": "count"}},
    "players": {"Player": {"rest": "", "energy": "state", "form": "", "ear_energy": "numbers",
                           "alone": "state, ticks"}},
    "webs": {"Web": {"__init__": "joints=(), rods=(), ears=()", "tick": "state, knocks", "back": "state, heard",
                     "product": "first, second", "flip": "state", "commons": "state, knocks",
                     "forth": "state, rod", "backs": "state, rod", "arms": "joint",
                     "line": "strengths, *, ear=1, end='level'"}},
    "records": {"Record": {"__init__": "player, start", "begin": "", "now": "", "knock_lists": "", "heard_lists": "",
                           "states": "", "step": "knocks", "undo": ""}},
    "cores": {"Core": {"__init__": "a, b, c, d, *, form, strengths", "tick": "state, knocks", "back": "state, heard",
                       "product": "first, second", "of": "player", "backward": "", "dual": "", "negated": "",
                       "reordered": "order", "beside": "other"}},
    "leads": {"Lead": {"__init__": "first, second, table", "same": "player", "then": "other", "back": ""}},
    "piles": {"Pile": {"__init__": "panes, *, end=1, strength=1", "tick": "state, knocks", "back": "state, heard",
                       "product": "first, second", "echo": "count", "ratio": "", "as_web": "", "behind": "pane",
                       "negated": "", "with_end": "end", "spread": "times", "re_eared": "strength"}},
    "papers": {"Paper": {}, "Alike": {"__init__": "lead"}, "Unlike": {"__init__": "one, other, at, heard, knocked"},
               "Begins": {"__init__": "numbers, pile"}, "Louder": {"__init__": "numbers, knocks"},
               "Told": {"__init__": "player, measure, ears, weights"},
               "Ghost": {"__init__": "player, measure, ears, ticks, state"},
               "Steered": {"__init__": "player, wish, knocks"}, "Unreached": {"__init__": "player, wish, ticks, bar"},
               "Hushed": {"__init__": "player, state, knocks"}, "Unhushed": {"__init__": "player, state, ticks, bar"},
               "Explained": {"__init__": "player, heard, knocks, state"},
               "Unexplained": {"__init__": "player, heard, knocks, weights"}},
    "bushes": {"Bush": {"__init__": "*branches", "as_pile": "*, strength=1"},
               "LevelBush": {"as_web": "*, strength=1", "echo": "count, *, strength=1"},
               "StreamBush": {"as_web": "*, strength=1", "echo": "count, *, strength=1"}},
    "linked": {"Linked": {"__init__": "players, links", "tick": "state, knocks", "back": "state, heard",
                          "product": "first, second", "parts": "state", "exchanged": "index, lead"}},
    "desk": {"Desk": {"__init__": "web, state=None", "web_now": "", "state_now": "", "knock_lists": "",
                      "heard_lists": "", "set_limit": "limit", "book": "", "knock": "*knocks", "wait": "ticks",
                      "add_rod": "joint, *, kind='level', length=1, strength=1, twist=1", "take_off": "rod",
                      "retune": "rod, strength", "set_kind": "joint, kind", "move": "name, *arguments", "undo": "",
                      "redo": "", "trial": ""}},
}
STATIC = {"Frac": ["of", "read"], "Table": ["unit", "zero", "diagonal"], "Space": ["whole", "kernel"],
          "Poly": ["common"], "Core": ["of"], "Lead": ["same"]}
SIGNS = {
    "Frac": "add radd sub rsub mul rmul floordiv rfloordiv mod rmod pow neg abs bool eq lt le gt ge str",
    "Table": "getitem iter add sub mul rmul neg eq call",
    "Space": "len iter contains or and le eq",
    "Powers": "len iter getitem add radd sub rsub mul rmul floordiv neg eq",
    "Poly": "add radd sub rsub mul rmul floordiv mod neg eq call",
    "Ratio": "add radd sub rsub mul rmul neg eq call",
    "Web": "eq",
    "Record": "len getitem iter iadd",
    "Core": "eq",
    "Lead": "call",
    "Pile": "len iter eq",
    "Bush": "eq",
    "Desk": "len iter",
}
PROPERTIES = {("polys", "Poly"): ["degree"], ("webs", "Web"): ["level", "plain"],
              ("records", "Record"): ["energy_in", "energy_out", "energy_left"],
              ("desk", "Desk"): ["energy_left", "tick_count", "limit"]}


def module(name):
    return importlib.import_module("rodwebs." + name)


def parameters(function, skipped=0):
    given = list(inspect.signature(function).parameters.values())[skipped:]
    return str(inspect.Signature(given))[1:-1]


class Interface(unittest.TestCase):
    def test_functions(self):
        for name, functions in FUNCTIONS.items():
            for function, wanted in functions.items():
                found = getattr(module(name), function)
                self.assertTrue(inspect.isfunction(found))
                self.assertEqual((found.__module__, found.__name__), ("rodwebs." + name, function))
                self.assertEqual(parameters(found), wanted, function)

    def test_classes(self):
        for name, classes in CLASSES.items():
            for title, methods in classes.items():
                found = getattr(module(name), title)
                self.assertEqual(found.__module__, "rodwebs." + name)
                for method, wanted in methods.items():
                    held = vars(found)[method]
                    if isinstance(held, staticmethod):
                        self.assertIn(method, STATIC[title])
                        self.assertEqual(parameters(held.__func__), wanted)
                    elif isinstance(held, classmethod):
                        self.assertEqual((title, method), ("Web", "line"))
                        self.assertEqual(parameters(held.__func__, 1), wanted)
                    else:
                        self.assertNotIn(method, STATIC.get(title, []))
                        self.assertEqual(parameters(held, 1), wanted, method)

    def test_signs(self):
        for name, classes in CLASSES.items():
            for title in classes:
                for sign in SIGNS.get(title, "").split():
                    self.assertIn(f"__{sign}__", vars(getattr(module(name), title)), title)

    def test_assigned_property(self):
        self.assertIsNotNone(vars(module("desk").Desk)["limit"].fset)

    def test_properties(self):
        for (name, title), listed in PROPERTIES.items():
            for listed_name in listed:
                self.assertIsInstance(vars(getattr(module(name), title))[listed_name], property)

    def test_players(self):
        for name, title in (("webs", "Web"), ("cores", "Core"), ("piles", "Pile"), ("linked", "Linked")):
            found = getattr(module(name), title)
            self.assertTrue(issubclass(found, Player))
            for method in ("tick", "back", "product"):
                self.assertIn(method, vars(found))

    def test_class_values(self):
        self.assertEqual(module("fracs").Frac.MOST_DIGITS, 60)
        web = module("webs").Web
        self.assertEqual((web.MOST_JOINTS, web.MOST_RODS, web.MOST_EARS, web.MOST_CELLS), (8, 8, 4, 24))
        self.assertEqual(module("records").Record.MOST_TICKS, 200)


if __name__ == "__main__":
    unittest.main()
