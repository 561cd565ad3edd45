"""How the numbers in the cells of a web become the numbers in the cells of another one.

The numbers of a way along a rod are told by a list with one entry for each cell; an entry is a list of pairs (cell,
weight) and stands for the sum of weight times the number in this cell of the first web.
"""

from rodwebs.fracs import Frac
from rodwebs.leads import Lead
from rodwebs.tables import Table


def rod_numbers(web):
    """For each rod the pair (forth, backs) of its own numbers."""
    out = []
    for first, (_, _, length, _, _) in zip(web.first_cells, web.rods):
        own = [[(first + cell, Frac(1))] for cell in range(2 * length)]
        out.append((own[:length], own[length:]))
    return out


def times(factor, numbers):
    """The numbers of a way, each multiplied by a factor."""
    return [[(cell, factor * weight) for cell, weight in entry] for entry in numbers]


def sums(first, second):
    """The sums of the numbers of two ways, place by place."""
    return [one + other for one, other in zip(first, second)]


def carried(web, new, rods):
    """The Lead from a web to a new one in which each rod has the numbers that are told for it."""
    rows = []
    for forth, backs in rods:
        rows.extend([_row(entry, web.cells) for entry in forth + backs])
    return Lead(web, new, Table(rows, width=web.cells))


def without(items, place):
    """A list or tuple without the item at this place."""
    return items[:place] + items[place + 1:]


def _row(entry, width):
    row = [Frac(0)] * width
    for cell, weight in entry:
        row[cell] = weight
    return row
