"""Players of several kinds for tests."""

from fractions import Fraction

from rodwebs.cores import Core
from rodwebs.fracs import Frac
from rodwebs.piles import Pile
from rodwebs.webs import Web
from tests.helpers import exact, frac, fracs
from tests.told import ToldWeb, some_pile, told_webs

HALF = Fraction(1, 2)
# Two ears, silent states, a twisted rod, a loop and both kinds of joints.
TOLD = ToldWeb(["level", "stream", "level"],
               [(0, 1, 1, Fraction(2), 1), (0, 1, 1, HALF, 1), (1, 1, 1, Fraction(3), -1), (1, 2, 1, Fraction(1), -1)],
               [(0, Fraction(3)), (2, HALF)])


def web_of(told):
    return Web(*told.passed())


def pile_of_told(told):
    return Pile(fracs(told.panes), end=told.end, strength=frac(told.strength))


def some_players(draw, count=6):
    """Webs, cores of webs and piles, each with at least one cell or ear, and such without cells or ears."""
    for told in told_webs(draw, count):
        web = web_of(told)
        yield web
        if told.cells <= 12:
            yield Core.of(web)
    for panes in (0, 1, 3, 6):
        pile = pile_of_told(some_pile(draw, panes, 5))
        yield pile
        yield Core.of(pile)


def units(count):
    return [[Frac(int(k == place)) for k in range(count)] for place in range(count)]


def inner(player, first, second):
    """The product of two states by the table of products, in Fractions."""
    form = exact(list(player.form()))
    return sum((x * z * y for x, row in zip(exact(first), form) for z, y in zip(row, exact(second))), Fraction(0))


def loudness(strengths, numbers):
    """The energy of lists of knocks or heard numbers, in Fractions."""
    return sum((z * x * x for row in exact(numbers) for z, x in zip(exact(strengths), row)), Fraction(0))
