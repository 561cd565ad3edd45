"""Players that sound alike for ever."""

from rodwebs.checks import check_agreeing
from rodwebs.errors import Unalike
from rodwebs.leads import Lead
from rodwebs.papers import Alike, Unlike
from rodwebs.runs import echoes
from rodwebs.spaces import grown
from rodwebs.tables import Table, blocks


def first_difference(one, other):
    """None if two players are alike, otherwise where their echoes differ first: (at, heard, knocked)."""
    check_agreeing(one, other)
    count = min(int(one.cells), int(other.cells)) + 1
    for at, (first, second) in enumerate(zip(echoes(one, count), echoes(other, count))):
        for heard in range(one.ears):
            for knocked in range(one.ears):
                if first[heard, knocked] != second[heard, knocked]:
                    return at, heard, knocked
    return None


def alike(one, other):
    """Whether two players are alike."""
    return first_difference(one, other) is None


def compare(one, other):
    """A paper that says whether two players are alike: Alike or Unlike."""
    found = first_difference(one, other)
    if found is None:
        return Alike(_lead_of_alike(one, other))
    return Unlike(one, other, *found)


def lead_between(one, other):
    """The lead between two alike players that takes all silent states to 0."""
    found = first_difference(one, other)
    if found is not None:
        at, heard, knocked = found
        raise Unalike(at, heard, knocked)
    return _lead_of_alike(one, other)


def _lead_of_alike(one, other):
    a, b, _, _ = one.tick_tables()
    beside, below, _, _ = other.tick_tables()
    knocked = [b.column(ear) + below.column(ear) for ear in range(one.ears)]
    # The same knocks bring alike players to heard states that belong together; the pivots are cells of the first.
    pairs = grown(knocked, blocks(a, beside), one.cells)[-1]
    heard = Table([row[:one.cells] for row in pairs], width=one.cells)
    met = Table([row[one.cells:] for row in pairs], width=other.cells)
    bent = heard * one.form()
    weights = (bent * heard.transposed()).inverse() * bent
    return Lead(one, other, met.transposed() * weights)
