"""Cores: players that are given by tables."""

from rodwebs.checks import check_count, check_length, check_order, check_size, check_strength
from rodwebs.errors import BadForm, Mismatch, Unkept
from rodwebs.fracs import Frac, dot, fracs_of
from rodwebs.players import Player
from rodwebs.solving import dip
from rodwebs.tables import Table, applied, blocks

MOST_CELLS = 24
MOST_EARS = 4


class Core(Player):
    """A player whose tick is given by four tables, and its products by a form."""

    def __init__(self, a, b, c, d, *, form, strengths):
        _check_tables(a, b, c, d)
        _check_energy_form(form, a.height)
        _check_strengths(strengths, b.width)
        Player.__init__(self, a.height, strengths)
        self.a = a
        self.b = b
        self.c = c
        self.d = d
        self.energy_form = form
        _check_kept(self)
        self.form_inverse = form.inverse()

    def __eq__(self, other):
        if not isinstance(other, Core):
            return NotImplemented
        return (
            self.a == other.a and self.b == other.b and self.c == other.c and self.d == other.d
            and self.energy_form == other.energy_form and self.strengths == other.strengths
        )

    def tick(self, state, knocks):
        """The new state and the heard numbers of one tick."""
        check_length(state, self.cells)
        check_length(knocks, self.ears)
        cells = fracs_of(state)
        given = fracs_of(knocks)
        new = _sums(applied(self.a, cells), applied(self.b, given))
        return new, _sums(applied(self.c, cells), applied(self.d, given))

    def back(self, state, heard):
        """The old state and the knocks of the tick that leads to this state and makes these numbers heard."""
        check_length(state, self.cells)
        check_length(heard, self.ears)
        # A tick keeps all products, so its opposite takes the products with what single cells and ears give.
        inside = applied(self.energy_form, fracs_of(state))
        outside = [strength * number for strength, number in zip(self.strengths, heard)]
        cells = _sums(_by_columns(self.a, inside), _by_columns(self.c, outside))
        knocks = _sums(_by_columns(self.b, inside), _by_columns(self.d, outside))
        return applied(self.form_inverse, cells), [number.over(z) for number, z in zip(knocks, self.strengths)]

    def product(self, first, second):
        """The product of two states."""
        check_length(first, self.cells)
        check_length(second, self.cells)
        return dot(fracs_of(first), applied(self.energy_form, fracs_of(second)))

    def form(self):
        """The table of the products of the states with a single 1."""
        return self.energy_form

    def tick_tables(self):
        """The four tables of a tick."""
        return self.a, self.b, self.c, self.d

    @staticmethod
    def of(player):
        """The core that plays exactly like a player, cell by cell."""
        a, b, c, d = player.tick_tables()
        return Core(a, b, c, d, form=player.form(), strengths=player.strengths)

    def backward(self):
        """The core whose ticks are those of this core taken back."""
        strong = Table.diagonal(self.strengths)
        weak = _inverted(self.strengths)
        form = self.energy_form
        return Core(
            self.form_inverse * self.a.transposed() * form, self.form_inverse * self.c.transposed() * strong,
            weak * self.b.transposed() * form, weak * self.d.transposed() * strong,
            form=form, strengths=self.strengths,
        )

    def dual(self):
        """The core with inverted strengths that hears the negatives, each weighed with its old strength."""
        strong = Table.diagonal(self.strengths)
        weak = _inverted(self.strengths)
        return Core(
            self.a, self.b * weak, -(strong * self.c), -(strong * self.d * weak),
            form=self.energy_form, strengths=[Frac(1).over(strength) for strength in self.strengths],
        )

    def negated(self):
        """The core that hears the negatives."""
        return Core(self.a, self.b, -self.c, -self.d, form=self.energy_form, strengths=self.strengths)

    def reordered(self, order):
        """The core with its ears in another order."""
        check_order(order, self.ears)
        places = list(range(self.cells))
        return Core(
            self.a, _picked(self.b, places, order), _picked(self.c, order, places), _picked(self.d, order, order),
            form=self.energy_form, strengths=[self.strengths[ear] for ear in order],
        )

    def beside(self, other):
        """This core and another one as one core, in which they do not touch each other."""
        check_size(self.cells + other.cells, MOST_CELLS)
        check_count(self.ears + other.ears, 0, MOST_EARS)
        return Core(
            blocks(self.a, other.a), blocks(self.b, other.b), blocks(self.c, other.c), blocks(self.d, other.d),
            form=blocks(self.energy_form, other.energy_form), strengths=self.strengths + other.strengths,
        )


def _check_tables(a, b, c, d):
    _check_shape(a, a.height, a.height)
    check_size(a.height, MOST_CELLS)
    _check_shape(b, a.height, b.width)
    check_count(b.width, 0, MOST_EARS)
    _check_shape(c, b.width, a.height)
    _check_shape(d, b.width, b.width)


def _check_shape(table, height, width):
    if table.height != height or table.width != width:
        raise Mismatch()


def _check_energy_form(form, cells):
    _check_shape(form, cells, cells)
    # This refuses a form that is not symmetric, too.
    numbers = dip(form)
    if numbers is not None:
        raise BadForm(numbers)


def _check_strengths(strengths, ears):
    check_length(strengths, ears)
    for strength in strengths:
        check_strength(strength)


def _check_kept(core):
    """Unkept(state, knocks) if there is a tick of the core that does not keep energy."""
    whole = Table([left + right for left, right in zip(core.a.rows + core.c.rows, core.b.rows + core.d.rows)])
    weights = blocks(core.energy_form, Table.diagonal(core.strengths))
    change = whole.transposed() * weights * whole - weights
    places = _changed_places(change)
    if places is not None:
        numbers = [Frac(1) if place in places else Frac(0) for place in range(change.width)]
        raise Unkept(tuple(numbers[:core.cells]), tuple(numbers[core.cells:]))


def _changed_places(change):
    """Some places with 1 at which, and 0 elsewhere, the value of a symmetric table is not 0; None if there are none."""
    for place, row in enumerate(change.rows):
        if row[place] != 0:
            return [place]
    # With zeros on the diagonal, the value of a pair is twice the entry of the pair.
    for place, row in enumerate(change.rows):
        for other, number in enumerate(row):
            if number != 0:
                return [place, other]
    return None


def _sums(first, second):
    return [one + other for one, other in zip(first, second)]


def _by_columns(table, numbers):
    """The transposed table, applied to numbers."""
    return [dot(table.column(col), numbers) for col in range(table.width)]


def _inverted(strengths):
    return Table.diagonal([Frac(1).over(strength) for strength in strengths])


def _picked(table, rows, cols):
    return Table([[table[row, col] for col in cols] for row in rows], width=len(cols))
