"""What echo tables tell about the inside."""

from math import lcm

from rodwebs.checks import check_count, check_length, check_lengths, check_squares, check_strength
from rodwebs.cores import MOST_CELLS, MOST_EARS, Core
from rodwebs.errors import Loud, Mismatch, TooFew
from rodwebs.fracs import Frac, dot, fracs_of, shared
from rodwebs.powers import MOST, Powers
from rodwebs.rows import reduced
from rodwebs.runs import sounded
from rodwebs.tables import Table

MOST_PLACES = 100


def inside_table(strengths, echoes):
    """The table of the inside products of single knocks."""
    _check_told(strengths, echoes)
    inside = Inside(fracs_of(strengths), echoes)
    ears = len(strengths)
    # Place j * ears + ear of this table is a knock at tick j, which is so many ticks ago at the last tick.
    places = [tick * ears + ear for tick in list(range(len(echoes)))[::-1] for ear in range(ears)]
    return Table([[inside.product_of(place, other) for other in places] for place in places])


def told_back(strengths, echoes):
    """A Core whose echo tables begin with these, with as few cells as possible."""
    _check_told(strengths, echoes)
    sizes = fracs_of(strengths)
    # Once a tick tells nothing new, no later one does; so of a core that is not too large these ticks tell all.
    first = Inside(sizes, echoes[:MOST_CELLS + 1])
    places = _new_places(first)
    if places is None:
        # Tables that are loud are refused ahead of those that are too few, whichever table it is.
        _new_places(Inside(sizes, echoes))
        raise TooFew(len(echoes))
    core = _core_told(first, echoes, places)
    _check_echoes(core, echoes)
    return core


def inside_product(strengths, echoes, first, second):
    """The inside product of two lists of knocks."""
    _check_told(strengths, echoes)
    for knocks in (first, second):
        check_length(knocks, len(echoes))
        check_lengths(knocks, len(strengths))
    sizes = fracs_of(strengths) * len(echoes)
    knocked = _weighted(sizes, _flat(first), _flat(second))
    return knocked - _weighted(sizes, _flat(sounded(echoes, first)), _flat(sounded(echoes, second)))


def determinant(echoes):
    """The Powers of the determinants of echo tables."""
    check_squares(echoes)
    check_count(len(echoes), 0, MOST)
    size = echoes[0].width if echoes else 0
    check_count(size, 0, MOST_EARS)
    series = [[Powers([table[row, col] for table in echoes]) for col in range(size)] for row in range(size)]
    one = [1] + [0] * len(echoes)
    return _series_determinant(series, Powers(one[:len(echoes)]))


class Inside:
    """The inside products of single knocks, where place j * ears + ear is the knock of an ear j ticks ago.

    So the places that belong to fewer tables stand ahead of the others. The product of two places is kept as an
    integer: it is multiplied by the scales of both.
    """

    def __init__(self, strengths, echoes):
        self.strengths = strengths
        self.ticks = len(echoes)
        heard = [table.column(ear) for table in echoes for ear in range(len(strengths))]
        self.scales = _scales(strengths, heard)
        tops = [[number.num * (scale // number.den) for number in row] for row, scale in zip(heard, self.scales)]
        self.rows = []
        for place, row in enumerate(tops):
            bent = [z.num * number // z.den for z, number in zip(strengths, row)]
            self.rows.append([
                self._a_tick_before(place, other) - sum([x * y for x, y in zip(bent, tops[other])])
                for other in range(len(tops))
            ])

    def product_of(self, place, other):
        """The inside product of two places."""
        return Frac(self.rows[place][other], self.scales[place] * self.scales[other])

    def _a_tick_before(self, place, other):
        """The product of the same two knocks before what was heard of them in the last tick is taken off."""
        ears = len(self.strengths)
        if place >= ears and other >= ears:
            times = self.scales[place] // self.scales[place - ears] * (self.scales[other] // self.scales[other - ears])
            return self.rows[place - ears][other - ears] * times
        if place != other:
            return 0
        return self.strengths[place].num * self.scales[place] * self.scales[place] // self.strengths[place].den


def _check_told(strengths, echoes):
    check_count(len(strengths), 0, MOST_EARS)
    for strength in strengths:
        check_strength(strength)
    for table in echoes:
        if table.height != len(strengths) or table.width != len(strengths):
            raise Mismatch()
    check_count(len(strengths) * len(echoes), 0, MOST_PLACES)


def _scales(strengths, heard):
    """For each place an integer that makes all its products integers, a multiple of that of the place a tick before."""
    ears = len(strengths)
    _, bottom = shared(strengths)
    out = []
    for place, row in enumerate(heard):
        _, den = shared(row)
        out.append(lcm(bottom * den, out[place - ears] if place >= ears else 1))
    return out


def _new_places(inside):
    """The places whose knocks make states that are not made of those of earlier places, up to tables that are enough.

    None if no tables are enough for a core that is not too large; Loud(index) if the tables looked at are loud.
    """
    ears = len(inside.strengths)
    columns = []
    places = []
    for tick in range(inside.ticks):
        known = len(places)
        for place in range(tick * ears, (tick + 1) * ears):
            column = _new_column(inside.rows, columns, places, place)
            # No energy is below 0, and a state of energy 0 has the product 0 with each state.
            if column[place] < 0 or any([column[k] != 0 for k in range(place) if k not in places]):
                raise Loud(tick)
            columns.append(column)
            if column[place] > 0:
                places.append(place)
        if len(places) == known and known <= MOST_CELLS:
            return places
    return None


def _new_column(rows, columns, places, last):
    """The products of the last place with what is new in each place up to it, each times an integer above 0."""
    column = []
    for place in range(last + 1):
        product = rows[place][last]
        beside = columns[place] if place < last else column
        before = 1
        for new in [earlier for earlier in places if earlier < place]:
            # The division is exact: all these numbers are minors of the rows.
            product = (columns[new][new] * product - beside[new] * column[new]) // before
            before = columns[new][new]
        column.append(product)
    return column


def _core_told(inside, echoes, places):
    """The core whose cells are the states that the knocks at these places make."""
    ears = len(inside.strengths)
    later = [place + ears for place in places]
    wanted = places + later + list(range(ears))
    # Behind its leading ones the reduced form tells how the states of the places are made of those in the cells.
    _, basis = reduced([[inside.product_of(place, other) for other in wanted] for place in places])
    size = len(places)
    heard = [echoes[place // ears].column(place % ears) for place in later]
    return Core(
        Table([row[size:2 * size] for row in basis]), Table([row[2 * size:] for row in basis], width=ears),
        Table(heard, width=ears).transposed(), echoes[0],
        form=Table([[inside.product_of(one, other) for other in places] for one in places]),
        strengths=inside.strengths,
    )


def _check_echoes(core, echoes):
    """Loud(index) for the first table that is not the echo table of the core.

    Nothing but the echo tables of the core can follow tables that were enough for it.
    """
    onward = core.b
    for index in range(1, len(echoes)):
        if echoes[index] != core.c * onward:
            raise Loud(index)
        onward = core.a * onward


def _flat(lists):
    return fracs_of([number for numbers in lists for number in numbers])


def _weighted(weights, first, second):
    return dot([weight * number for weight, number in zip(weights, first)], second)


def _series_determinant(rows, one):
    """The determinant of a square of Powers, all as long as the Powers of 1."""
    if not rows:
        return one
    total = one * 0
    for k, row in enumerate(rows):
        part = row[0] * _series_determinant([other[1:] for other in rows[:k] + rows[k + 1:]], one)
        total = total - part if k & 1 else total + part
    return total
