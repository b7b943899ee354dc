import itertools
import math
import unittest

from risecount.counts import count_at
from risecount.goings import goings_many
from risecount.shapes import contents, hooks, shape_count, shape_goings, shape_order, shapes_of
from tests.helper import (
    FAR_KS, FAR_NUMBERS, HUGE, K_60, chain_order, check, count_by_trying, goings_by_trying, pairs_from, refused,
    rows_from, told,
)

# How many shapes there are of 0 to 9 cells.
MANY = (1, 1, 2, 3, 5, 7, 11, 15, 22, 30)


def shapes_by_trying(m):
    """All tuples of up to m numbers from m down to 1, none more than the one ahead, with this sum; sorted."""
    tried = [rows for many in range(m + 1) for rows in itertools.combinations_with_replacement(range(m, 0, -1), many)]
    return tuple(sorted(rows for rows in tried if sum(rows) == m))


SHAPES = tuple(shape for m in range(10) for shape in shapes_by_trying(m))


def cells_by_words(shape):
    """The cells in the order of their numbers: from the lowest row up, in each row from left to right."""
    cells = [(r, c) for r, width in enumerate(shape) for c in range(width)]
    return sorted(cells, key=lambda cell: (-cell[0], cell[1]))


def order_by_words(shape):
    cells = cells_by_words(shape)
    pairs = {
        (a, b) for a, b in itertools.permutations(range(len(cells)), 2)
        if cells[a][0] <= cells[b][0] and cells[a][1] <= cells[b][1]
    }
    return rows_from(len(cells), pairs)


def hook_by_words(cells, cell):
    right = [other for other in cells if other[0] == cell[0] and other[1] > cell[1]]
    later = [other for other in cells if other[1] == cell[1] and other[0] > cell[0]]
    return 1 + len(right) + len(later)


class ShapesOfTest(unittest.TestCase):
    def test_few_cells(self):
        check(self, ((),), shapes_of, 0)
        check(self, ((1,),), shapes_of, 1)
        check(self, ((1, 1), (2,)), shapes_of, 2)
        check(self, ((1, 1, 1), (2, 1), (3,)), shapes_of, 3)
        check(self, ((1, 1, 1, 1), (2, 1, 1), (2, 2), (3, 1), (4,)), shapes_of, 4)

    def test_all_of_0_to_9_cells(self):
        for m, many in enumerate(MANY):
            check(self, shapes_by_trying(m), shapes_of, m)
            self.assertEqual(len(shapes_of(m)), many)

    def test_no_number(self):
        for m in (-1, -2, -9, -10, 10, 11, 18, 1000) + FAR_NUMBERS:
            refused(self, "NoNumber", shapes_of, m)

    def test_same_answer_behind_a_refusal(self):
        before = shapes_of(5)
        refused(self, "NoNumber", shapes_of, 10)
        self.assertEqual(before, shapes_of(5))


class NoShapeTest(unittest.TestCase):
    def no_shape(self, rows):
        for call in (shape_order, hooks, contents, shape_goings):
            refused(self, "NoShape", call, rows)
        for k in (0, 3, -3, K_60, -K_60):
            refused(self, "NoShape", shape_count, rows, k)

    def test_every_tuple_of_small_numbers(self):
        for many in range(5):
            for rows in itertools.product(range(-1, 4), repeat=many):
                if rows in SHAPES:
                    for call in (shape_order, hooks, contents, shape_goings):
                        told(self, call, rows)
                    told(self, shape_count, rows, 2)
                else:
                    for call in (shape_order, hooks, contents, shape_goings):
                        refused(self, "NoShape", call, rows)
                    refused(self, "NoShape", shape_count, rows, 2)

    def test_a_row_of_0_or_below(self):
        for rows in ((0,), (0, 0), (3, 0), (3, 0, 0), (-1,), (3, -1), (5, 5, -1), (9, 1, -1), (10, -1), (2, 1, -3)):
            self.no_shape(rows)

    def test_a_row_longer_than_the_one_ahead(self):
        for rows in ((1, 2), (3, 2, 3), (1, 1, 1, 2), (4, 5), (2, 1, 2), (1, 8), (0, 1), (-1, 1)):
            self.no_shape(rows)

    def test_more_than_nine_cells(self):
        for rows in ((10,), (9, 1), (5, 5), (8, 2), (4, 3, 3), (2, 2, 2, 2, 2), (1,) * 10, (3, 3, 3, 1), (11,)):
            self.no_shape(rows)

    def test_rows_of_up_to_600_figures(self):
        for far in FAR_NUMBERS:
            self.no_shape((far,))
            self.no_shape((3, far))
            self.no_shape((far, 3))
            self.no_shape((far, far))
        self.no_shape((HUGE, 9 - HUGE))
        self.no_shape((HUGE, -HUGE))
        self.no_shape((HUGE, 1) + (1,) * 298)

    def test_up_to_three_hundred_rows(self):
        for many in (10, 11, 150, 300):
            self.no_shape((1,) * many)
            self.no_shape((0,) * many)
            self.no_shape((-1,) * many)
            self.no_shape((9,) * many)

    def test_same_answer_behind_a_refusal(self):
        before = [call((3, 1)) for call in (shape_order, hooks, contents, shape_goings)] + [shape_count((3, 1), 4)]
        self.no_shape((1, 3))
        after = [call((3, 1)) for call in (shape_order, hooks, contents, shape_goings)] + [shape_count((3, 1), 4)]
        self.assertEqual(before, after)


class ShapeTest(unittest.TestCase):
    def test_shape_of_no_cells(self):
        for call in (shape_order, hooks, contents):
            check(self, (), call, ())
        check(self, 1, shape_goings, ())
        for k in (0, 1, -1, 7) + FAR_KS:
            check(self, 1, shape_count, (), k)

    def test_shapes_seen_by_eye(self):
        # Above stand 1 and 2, below 1 stands 0.
        check(self, ((1,), (), (1,)), shape_order, (2, 1))
        check(self, (1, 3, 1), hooks, (2, 1))
        check(self, (-1, 0, 1), contents, (2, 1))
        check(self, 2, shape_goings, (2, 1))
        check(self, 8, shape_count, (2, 1), 3)
        check(self, -8, shape_count, (2, 1), -3)
        # Rows, from the uppermost one down: 3 4 5, 1 2, 0.
        check(self, ((1, 3), (3,), (1, 3, 4), (), (3,), (3, 4)), shape_order, (3, 2, 1))
        check(self, (1, 3, 1, 5, 3, 1), hooks, (3, 2, 1))
        check(self, (-2, -1, 0, 0, 1, 2), contents, (3, 2, 1))
        check(self, 16, shape_goings, (3, 2, 1))

    def test_one_row_and_one_column(self):
        for n in range(1, 10):
            check(self, chain_order(tuple(range(n))), shape_order, (n,))
            check(self, tuple(range(n, 0, -1)), hooks, (n,))
            check(self, tuple(range(n)), contents, (n,))
            check(self, chain_order(tuple(range(n - 1, -1, -1))), shape_order, (1,) * n)
            check(self, tuple(range(1, n + 1)), hooks, (1,) * n)
            check(self, tuple(range(1 - n, 1)), contents, (1,) * n)
            check(self, 1, shape_goings, (n,))
            check(self, 1, shape_goings, (1,) * n)

    def test_every_shape_cell_by_cell(self):
        for shape in SHAPES:
            cells = cells_by_words(shape)
            check(self, order_by_words(shape), shape_order, shape)
            check(self, tuple(hook_by_words(cells, cell) for cell in cells), hooks, shape)
            check(self, tuple(c - r for r, c in cells), contents, shape)

    def test_neighbours_are_plain_in_a_row_and_strict_in_a_column(self):
        for shape in SHAPES:
            pairs = pairs_from(shape_order(shape))
            cells = cells_by_words(shape)
            for r, c in cells:
                if (r, c + 1) in cells:
                    tie = (cells.index((r, c)), cells.index((r, c + 1)))
                    self.assertTrue(tie in pairs and tie[0] < tie[1])
                if (r + 1, c) in cells:
                    tie = (cells.index((r, c)), cells.index((r + 1, c)))
                    self.assertTrue(tie in pairs and tie[0] > tie[1])

    def test_goings(self):
        for shape in SHAPES:
            check(self, goings_many(shape_order(shape)), shape_goings, shape)
            if sum(shape) < 6:
                self.assertEqual(shape_goings(shape), len(goings_by_trying(shape_order(shape))))
        # The squares of the goings of all shapes of n cells add up to n!.
        for n in range(10):
            self.assertEqual(sum(shape_goings(shape) ** 2 for shape in shapes_of(n)), math.factorial(n))

    def test_counts(self):
        for shape in SHAPES:
            order = shape_order(shape)
            for k in (-11, -3, -2, -1, 0, 1, 2, 3, 4, 9, 10) + FAR_KS:
                check(self, count_at(order, k), shape_count, shape, k)

    def test_counts_by_trying(self):
        for shape in SHAPES:
            for k in range(5 if sum(shape) < 6 else 2):
                check(self, count_by_trying(shape_order(shape), k), shape_count, shape, k)


if __name__ == "__main__":
    unittest.main()
