"""Point 127, with point 49: Paper and its heirs."""

import inspect
import unittest
from fractions import Fraction

import rodwebs.papers
from rodwebs.fracs import Frac
from rodwebs.leads import Lead
from rodwebs.papers import (
    Alike, Begins, Explained, Ghost, Hushed, Louder, Paper, Steered, Told, Unexplained, Unhushed, Unlike, Unreached,
)
from rodwebs.piles import Pile
from rodwebs.webs import Web
from tests.helpers import Looks

HALF = Frac(1, 2)
WEB = Web(["level", "stream"], [(0, 1, 1, 2)], [(0, 1), (1, 3)])
PLAIN = {"player": WEB, "one": WEB, "other": Pile([HALF]), "pile": Pile([HALF]), "lead": Lead.same(WEB)}
COUNTS = {"at": 5, "heard": 1, "knocked": 0, "ticks": 7}
# For each heir its arguments in order, and what is kept of them: "number" stands for a list of numbers, "lists" for a
# list of such lists, "ears" for a list of ears.
HEIRS = {
    Alike: ({"lead": "plain"}, True),
    Unlike: ({"one": "plain", "other": "plain", "at": "count", "heard": "count", "knocked": "count"}, False),
    Begins: ({"numbers": "numbers", "pile": "plain"}, True),
    Louder: ({"numbers": "numbers", "knocks": "numbers"}, False),
    Told: ({"player": "plain", "measure": "numbers", "ears": "ears", "weights": "lists"}, True),
    Ghost: ({"player": "plain", "measure": "numbers", "ears": "ears", "ticks": "count", "state": "numbers"}, False),
    Steered: ({"player": "plain", "wish": "numbers", "knocks": "lists"}, True),
    Unreached: ({"player": "plain", "wish": "numbers", "ticks": "count", "bar": "numbers"}, False),
    Hushed: ({"player": "plain", "state": "numbers", "knocks": "lists"}, True),
    Unhushed: ({"player": "plain", "state": "numbers", "ticks": "count", "bar": "numbers"}, False),
    Explained: ({"player": "plain", "heard": "lists", "knocks": "lists", "state": "numbers"}, True),
    Unexplained: ({"player": "plain", "heard": "lists", "knocks": "lists", "weights": "lists"}, False),
}


def passed(name, kind):
    if kind == "plain":
        return PLAIN[name]
    if kind == "count":
        return COUNTS[name]
    return {"numbers": [1, HALF, -3], "lists": [[1, HALF], (2, 3), []], "ears": [1, 0]}[kind]


class Papers(Looks, unittest.TestCase):
    def test_classes(self):
        self.assertEqual(len(HEIRS), 12)
        for heir, (arguments, yes) in HEIRS.items():
            self.assertEqual(heir.__bases__, (Paper,))
            self.assertEqual(heir.__module__, "rodwebs.papers")
            self.assertEqual(list(inspect.signature(heir).parameters), list(arguments))
            self.assertIs(vars(heir)["YES"], yes)
        found = [value for value in vars(rodwebs.papers).values() if isinstance(value, type) and issubclass(value, Paper)]
        self.assertEqual(len(found), 13)

    def test_attributes(self):
        for heir, (arguments, yes) in HEIRS.items():
            for by_name in (False, True):
                given = {name: passed(name, kind) for name, kind in arguments.items()}
                paper = heir(**given) if by_name else heir(*given.values())
                self.assertIs(paper.YES, yes)
                for name, kind in arguments.items():
                    kept = getattr(paper, name)
                    if kind == "plain":
                        self.assertIs(kept, given[name])
                    elif kind == "count":
                        self.assertEqual((kept, type(kept)), (given[name], int))
                    elif kind == "ears":
                        self.assertEqual((kept, [type(ear) for ear in kept]), ((1, 0), [int, int]))
                    elif kind == "numbers":
                        self.assertIs(type(kept), tuple)
                        self.same(kept, [1, Fraction(1, 2), -3])
                    else:
                        self.assertEqual([type(part) for part in (kept, *kept)], [tuple] * 4)
                        self.same(kept, [[1, Fraction(1, 2)], [2, 3], []])

    def test_copies(self):
        for heir, (arguments, _) in HEIRS.items():
            given = {name: passed(name, kind) for name, kind in arguments.items()}
            paper = heir(**given)
            before = {name: getattr(paper, name) for name in arguments}
            for name, kind in arguments.items():
                if kind == "lists":
                    given[name][0][0] = 9
                if isinstance(given[name], list):
                    given[name].clear()
            self.assertEqual({name: getattr(paper, name) for name in arguments}, before)

    def test_nothing_is_refused(self):
        for made in (Told(WEB, [], [7, 7], [[1], [2, 3]]), Steered(WEB, [1], []), Begins([], Pile([])),
                     Louder([1], []), Ghost(WEB, (), (), 0, ()), Unlike(WEB, Pile([]), 199, 9, 9),
                     Unreached(WEB, [1], 10 ** 9, [2])):
            self.assertIsInstance(made, Paper)
        self.assertEqual(Told(WEB, [], [], []).weights, ())


if __name__ == "__main__":
    unittest.main()
