"""Points 61, 62 and 63: Space."""

import operator
import unittest
from fractions import Fraction

from rodwebs.errors import BadCount, BadSizes, Mismatch
from rodwebs.fracs import Frac
from rodwebs.spaces import Space
from rodwebs.tables import Table
from tests.helpers import Looks, applied, exact, fracs, rank_of, some_fraction, source


def some_lists(draw, count, size, most=3):
    return [[some_fraction(draw, most) for _ in range(size)] for _ in range(count)]


def space_of(size, lists):
    return Space(size, *[fracs(numbers) for numbers in lists])


def spans(lists, numbers):
    """Whether the numbers are a sum of multiples of the lists."""
    return rank_of(lists + [numbers]) == rank_of(lists)


def above_zero(draw, size):
    rows = some_lists(draw, size, size)
    return [[sum(row[i] * row[j] for row in rows) + (i == j) for j in range(size)] for i in range(size)]


class SpaceLooks(Looks):
    def holds(self, space, size, lists):
        """The space consists of the sums of multiples of these lists, and its basis is as it is told."""
        self.assertIs(type(space), Space)
        self.assertEqual(space.size, size)
        self.assertIs(type(space.size), int)
        basis = list(space)
        self.all_fracs(basis)
        told = exact(basis)
        for numbers in basis:
            self.assertIs(type(numbers), tuple)
            self.assertEqual(len(numbers), size)
        self.assertEqual(len(told), rank_of(exact(lists)))
        self.assertIs(type(len(space)), int)
        self.assertEqual(len(space), len(told))
        self.assertEqual(rank_of(told + exact(lists)), len(told))
        places = [next(k for k, x in enumerate(numbers) if x != 0) for numbers in told]
        self.assertEqual(places, sorted(set(places)))
        for place, numbers in zip(places, told):
            self.assertEqual(numbers[place], 1)
            self.assertEqual([other[place] for other in told if other is not numbers], [0] * (len(told) - 1))


class Making(SpaceLooks, unittest.TestCase):
    def test_some(self):
        draw = source(61)
        for size, count in [(1, 1), (3, 2), (3, 5), (4, 3), (5, 2), (2, 0), (6, 6)]:
            lists = some_lists(draw, count, size, 2)
            self.holds(space_of(size, lists), size, lists)

    def test_basis(self):
        space = Space(4, [0, 2, 4, 1], (0, 1, 2, Frac(1, 2)), [0, 0, 0, 3])
        self.same(list(space), [[0, 1, 2, 0], [0, 0, 0, 1]])
        self.assertEqual([type(numbers) for numbers in space], [tuple, tuple])
        self.same(list(Space(2, [Frac(2, 3), 1])), [[1, Fraction(3, 2)]])

    def test_edges(self):
        self.holds(Space(0), 0, [])
        self.holds(Space(0, [], ()), 0, [])
        self.holds(Space(3), 3, [])
        self.holds(Space(3, [0, 0, 0]), 3, [])
        self.holds(Space(100, [1] * 100), 100, [[1] * 100])
        self.holds(Space(1, [5], [7]), 1, [[1]])

    def test_refused(self):
        for size in (-1, 101, 10 ** 30):
            self.refused(BadCount, {"count": size}, Space, size)
            self.refused(BadCount, {"count": size}, Space, size, [1])
        self.refused(BadSizes, {"given": 1, "wanted": 2}, Space, 2, [1, 2], [1], [1, 2, 3])
        self.refused(BadSizes, {"given": 3, "wanted": 2}, Space, 2, [1, 2, 3], [1])
        self.refused(BadSizes, {"given": 1, "wanted": 0}, Space, 0, [1])

    def test_copies(self):
        numbers = [1, 2]
        space = Space(2, numbers)
        numbers[1] = 5
        list(space).append((1, 1))
        self.same(list(space), [[1, 2]])
        self.assertEqual(numbers, [1, 5])


class Signs(SpaceLooks, unittest.TestCase):
    def test_in(self):
        draw = source(621)
        for size, count in [(1, 1), (3, 2), (4, 2), (5, 3), (4, 4)]:
            lists = some_lists(draw, count, size)
            space = space_of(size, lists)
            for _ in range(6):
                weights = [some_fraction(draw) for _ in range(count)]
                inside = [sum(w * row[k] for w, row in zip(weights, lists)) for k in range(size)]
                self.truth(fracs(inside) in space, True)
                other = [some_fraction(draw) for _ in range(size)]
                self.truth(fracs(other) in space, spans(lists, other))
        self.truth((2, 4) in Space(2, [1, 2]), True)
        self.truth([2, 5] in Space(2, [1, 2]), False)
        self.truth([0, 1] in Space(2, [1, 2]), False)
        self.truth([0, 0] in Space(2), True)
        self.truth([0, 1] in Space(2), False)
        self.truth([] in Space(0), True)

    def test_in_refused(self):
        self.refused(BadSizes, {"given": 1, "wanted": 2}, operator.contains, Space(2, [1, 2]), [1])
        self.refused(BadSizes, {"given": 3, "wanted": 2}, operator.contains, Space(2), (0, 0, 0))
        self.refused(BadSizes, {"given": 1, "wanted": 0}, operator.contains, Space(0), [0])

    def test_or_and(self):
        draw = source(622)
        for size, one, other in [(1, 1, 0), (3, 2, 2), (4, 2, 1), (4, 3, 3), (5, 3, 4), (4, 2, 2), (6, 4, 4)]:
            for shared in (0, 1):
                both = some_lists(draw, shared, size, 2)
                first, second = some_lists(draw, one, size, 2) + both, some_lists(draw, other, size, 2) + both
                space, beside = space_of(size, first), space_of(size, second)
                self.holds(space | beside, size, first + second)
                meet = space & beside
                # In both spaces, and of the dimension that is left for it: this makes it the whole of both.
                self.assertEqual(len(meet), rank_of(first) + rank_of(second) - rank_of(first + second))
                for numbers in exact(list(meet)):
                    self.assertTrue(spans(first, numbers) and spans(second, numbers))
                self.holds(meet, size, list(meet))
                self.holds(space, size, first)
                self.holds(beside, size, second)

    def test_or_and_edges(self):
        self.holds(Space(0) | Space(0), 0, [])
        self.holds(Space(0) & Space(0), 0, [])
        self.holds(Space(2) | Space(2), 2, [])
        self.holds(Space(2, [1, 1]) & Space(2), 2, [])
        self.holds(Space.whole(2) & Space(2, [1, 3]), 2, [[1, 3]])
        self.holds(Space(2, [1, 0]) | Space(2, [0, 1]), 2, [[1, 0], [0, 1]])

    def test_at_most(self):
        small, large, other = Space(3, [1, 1, 0]), Space(3, [1, 0, 0], [0, 1, 0]), Space(3, [0, 0, 1])
        self.truth(small <= large, True)
        self.truth(large <= small, False)
        self.truth(small <= small, True)
        self.truth(other <= large, False)
        self.truth(Space(3) <= other, True)
        self.truth(other <= Space(3), False)
        self.truth(Space(0) <= Space(0), True)
        self.truth(Space(3, [1, 1, 0], [0, 0, 1]) <= large, False)

    def test_sizes_that_differ(self):
        for change in (operator.or_, operator.and_, operator.le):
            self.refused(BadSizes, {"given": 3, "wanted": 2}, change, Space(2, [1, 1]), Space(3))
            self.refused(BadSizes, {"given": 0, "wanted": 2}, change, Space(2), Space(0))

    def test_equal(self):
        self.truth(Space(2, [1, 2]) == Space(2, [2, 4], [-1, -2]), True)
        self.truth(Space(2, [1, 2]) != Space(2, [2, 4], [-1, -2]), False)
        self.truth(Space(2, [1, 2]) == Space(2, [1, 3]), False)
        self.truth(Space(2, [1, 2]) != Space(2), True)
        self.truth(Space(2) == Space(3), False)
        self.truth(Space(0) == Space(0), True)
        self.truth(Space(2, [0, 0]) == Space(2), True)
        for other in ([(1, 2)], None, 2):
            self.truth(Space(2, [1, 2]) == other, False)
            self.truth(Space(2, [1, 2]) != other, True)

    def test_nothing_changes(self):
        space = Space(2, [1, 0])
        same = space
        space |= Space(2, [0, 1])
        self.same(list(same), [[1, 0]])
        self.assertEqual(len(space), 2)
        space &= Space(2, [1, 1])
        self.same(list(space), [[1, 1]])


class Work(SpaceLooks, unittest.TestCase):
    def test_whole(self):
        for size in (0, 1, 4, 100):
            whole = Space.whole(size)
            self.assertEqual((whole.size, len(whole)), (size, size))
            self.same(list(whole), [[int(i == j) for j in range(size)] for i in range(size)])
        for size in (-1, 101):
            self.refused(BadCount, {"count": size}, Space.whole, size)

    def test_kernel(self):
        draw = source(631)
        for height, width in [(1, 1), (2, 4), (3, 3), (4, 2), (3, 6)]:
            rows = some_lists(draw, height, width, 1)
            space = Space.kernel(Table([fracs(row) for row in rows]))
            self.holds(space, width, list(space))
            self.assertEqual(len(space), width - rank_of(rows))
            for numbers in exact(list(space)):
                self.assertFalse(any(applied(rows, numbers)))
        self.assertEqual(Space.kernel(Table([], width=3)), Space.whole(3))
        self.assertEqual(Space.kernel(Table([[], []])), Space(0))
        self.assertEqual(Space.kernel(Table.zero(2, 3)), Space.whole(3))
        self.assertEqual(Space.kernel(Table.unit(4)), Space(4))

    def test_image(self):
        draw = source(632)
        for size, count, height in [(3, 2, 2), (2, 2, 4), (4, 1, 3), (3, 3, 3)]:
            lists, rows = some_lists(draw, count, size, 2), some_lists(draw, height, size, 1)
            wanted = [applied(rows, numbers) for numbers in lists]
            self.holds(space_of(size, lists).image(Table([fracs(row) for row in rows])), height, wanted)
        self.holds(Space.whole(2).image(Table([], width=2)), 0, [])
        self.holds(Space(0).image(Table([[], []])), 2, [])
        self.holds(Space(3).image(Table.unit(3)), 3, [])
        self.refused(BadSizes, {"given": 2, "wanted": 3}, Space(2).image, Table.unit(3))
        self.refused(BadSizes, {"given": 0, "wanted": 1}, Space(0).image, Table([], width=1))
        self.refused(BadSizes, {"given": 3, "wanted": 2}, Space(3).image, Table([[1, 2], [3, 4], [5, 6]]))

    def test_across(self):
        draw = source(633)
        for size, count in [(1, 1), (3, 1), (4, 2), (4, 4), (3, 0)]:
            lists, form = some_lists(draw, count, size), above_zero(draw, size)
            across = space_of(size, lists).across(Table([fracs(row) for row in form]))
            self.holds(across, size, list(across))
            self.assertEqual(len(across), size - rank_of(lists))
            for numbers in exact(list(across)):
                bent = applied(form, numbers)
                self.assertFalse(any(sum(x * y for x, y in zip(row, bent)) for row in lists))
        self.assertEqual(Space(0).across(Table([])), Space(0))
        self.assertEqual(Space(2, [1, 1]).across(Table.diagonal([1, 2])), Space(2, [2, -1]))

    def test_parts(self):
        draw = source(634)
        for size, count in [(1, 1), (3, 1), (4, 2), (4, 4), (3, 0), (4, 3)]:
            lists, form = some_lists(draw, count, size), above_zero(draw, size)
            numbers = [some_fraction(draw) for _ in range(size)]
            parts = space_of(size, lists).parts(fracs(numbers), Table([fracs(row) for row in form]))
            self.assertIs(type(parts), tuple)
            self.assertEqual([type(part) for part in parts], [list, list])
            self.all_fracs(parts)
            inside, rest = exact(parts[0]), exact(parts[1])
            self.assertEqual([x + y for x, y in zip(inside, rest)], numbers)
            self.assertEqual(len(inside), size)
            self.assertTrue(spans(lists, inside))
            bent = applied(form, rest)
            self.assertFalse(any(sum(x * y for x, y in zip(row, bent)) for row in lists))
        self.assertEqual(Space(0).parts([], Table([])), ([], []))
        inside, rest = Space(2, [1, 1]).parts((3, 0), Table.diagonal([1, 2]))
        self.same(inside, [1, 1])
        self.same(rest, [2, -1])

    def test_forms_that_do_not_fit(self):
        space = Space(2, [1, 1])
        for form in (Table.unit(1), Table.unit(3), Table([[1, 0]]), Table([[1], [0]]), Table([])):
            self.refused(Mismatch, {}, space.across, form)
            self.refused(Mismatch, {}, space.parts, [1, 2], form)
            self.refused(BadSizes, {"given": 1, "wanted": 2}, space.parts, [1], form)
        self.refused(BadSizes, {"given": 3, "wanted": 2}, space.parts, [1, 2, 3], Table.unit(2))


if __name__ == "__main__":
    unittest.main()
