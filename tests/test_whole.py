"""All roads to the count at k tell the same."""

import itertools
import unittest

from risecount.bases import value_of_descents, value_of_steps
from risecount.chains import chain_table
from risecount.counts import chosen, count_at, polynomial, shares_by_steps
from risecount.cutpaper import counted_by, cut_paper, shows_cuts
from risecount.fillings import count_plain
from risecount.forests import forest_goings, is_forest
from risecount.goings import descents_of, goings_listed, goings_many, shares_by_descents
from risecount.numbered import filling_at, filling_number, fillings_listed
from risecount.rows import rows_many
from risecount.shapes import shape_count, shape_goings, shape_order, shapes_of
from risecount.sums import above_plain, above_strict, side_by_side
from risecount.there import filling_of, going_of, row_of
from risecount.turned import names_turned, upside_down
from tests.helper import (
    FAR_KS, SMALL_ORDERS, chain_order, count_by_trying, fillings_by_trying, greater_orders, is_row_by_words,
    loose_order, refused,
)

MIDDLE_ORDERS = greater_orders(211, sizes=(5, 6), shares=(0.2, 0.4, 0.6))
GREAT_ORDERS = greater_orders(212, sizes=(7, 8, 9), shares=(0.3, 0.5, 0.8))
ENDS = (loose_order(9), chain_order(tuple(range(9))), chain_order((8, 7, 6, 5, 4, 3, 2, 1, 0)))
SHAPES = tuple(shape for m in range(8) for shape in shapes_of(m))


def polynomial_value(order, k):
    """The value of the polynomial told, divided by n!, seen to leave nothing over."""
    value = sum(factor * k ** i for i, factor in enumerate(polynomial(order)))
    for step in range(1, len(order) + 1):
        value, rest = divmod(value, step)
        assert rest == 0
    return value


def sum_over_descents(order, k):
    # Of the order of no things the sum has one share, and nothing is chosen.
    shares = shares_by_descents(order)
    return value_of_descents(shares, k) if order else shares[0]


def sum_over_goings(order, k):
    n = len(order)
    return sum(chosen(k + n - 1 - len(descents_of(going)), n) for going in goings_listed(order))


def roads(order):
    """All functions of k that tell the count, for whatever whole number k, as far as nothing is too great."""
    found = [
        lambda k: count_at(order, k),
        lambda k: polynomial_value(order, k),
        lambda k: sum_over_descents(order, k),
        lambda k: value_of_steps(shares_by_steps(order), k),
        lambda k: value_of_steps(chain_table(order)[-1][1], k),
        lambda k: (-1) ** len(order) * count_at(names_turned(order), -k),
        lambda k: (-1) ** len(order) * count_at(upside_down(order), -k),
        lambda k: count_at(names_turned(upside_down(order)), k),
    ]
    if goings_many(order) <= 100:
        paper = cut_paper(order)
        assert shows_cuts(order, paper)
        found.append(lambda k: counted_by(paper, k))
    if goings_many(order) <= 200:
        found.append(lambda k: sum_over_goings(order, k))
    return found


class RoadsTest(unittest.TestCase):
    def meet(self, order, ks):
        for k in ks:
            answers = [road(k) for road in roads(order)]
            self.assertEqual(len(set(answers)), 1, (order, k, answers))

    def test_small_orders_by_going_through_the_fillings(self):
        for order in SMALL_ORDERS:
            for road in roads(order):
                for k in range(4):
                    self.assertEqual(road(k), count_by_trying(order, k), (order, k))
            for k in range(4):
                self.assertEqual(count_plain(order, k), count_by_trying(order, k))

    def test_small_orders_at_other_numbers(self):
        for order in SMALL_ORDERS[::3]:
            self.meet(order, (-7, -2, -1, 9, 1000) + FAR_KS[:2])

    def test_greater_orders(self):
        for order in MIDDLE_ORDERS + GREAT_ORDERS + ENDS:
            self.meet(order, (-3, 2) + FAR_KS[:2])
        for order in MIDDLE_ORDERS:
            for k in range(4):
                self.assertEqual(count_plain(order, k), count_at(order, k))

    def test_at_numbers_below_0_the_fillings_with_names_turned(self):
        for order in SMALL_ORDERS:
            for k in range(4):
                sign = -1 if len(order) % 2 else 1
                self.assertEqual(count_at(order, -k), sign * count_by_trying(names_turned(order), k))

    def test_same_answers_behind_refusals(self):
        order = ((), (0,), (0,))
        before = [[road(k) for road in roads(order)] for k in (-2, 3)]
        refused(self, "NoNumber", count_plain, order, -1)
        refused(self, "TooGreat", cut_paper, loose_order(9))
        refused(self, "TooGreat", goings_listed, loose_order(9))
        refused(self, "NotForest", forest_goings, order)
        refused(self, "NoShape", shape_count, (1, 2), 3)
        self.assertEqual(before, [[road(k) for road in roads(order)] for k in (-2, 3)])


class FillingsTest(unittest.TestCase):
    def test_each_filling_by_one_going_and_one_row_and_back(self):
        for order in SMALL_ORDERS:
            for k in range(4):
                pairs = [(going_of(filling), row_of(filling)) for filling in fillings_by_trying(order, k)]
                goings = goings_listed(order)
                rows = list(itertools.combinations_with_replacement(range(1, k + 1), len(order)))
                wanted = [(going, row) for going in goings for row in rows if is_row_by_words(going, row, k)]
                self.assertEqual(sorted(pairs), wanted)
                self.assertEqual(sum(rows_many(going, k) for going in goings), len(wanted))
                self.assertEqual(fillings_listed(order, k), tuple(filling_of(*pair) for pair in wanted))

    def test_each_filling_by_its_number(self):
        for order in SMALL_ORDERS:
            for number, filling in enumerate(fillings_listed(order, 3)):
                self.assertEqual(filling_at(order, 3, number), filling)
                self.assertEqual(filling_number(order, 3, filling), number)


class ProductsTest(unittest.TestCase):
    def test_forests(self):
        forests = [order for order in SMALL_ORDERS + MIDDLE_ORDERS + GREAT_ORDERS + ENDS if is_forest(order)]
        self.assertGreater(len(forests), 50)
        for order in forests:
            self.assertEqual(forest_goings(order), goings_many(order))
            self.assertEqual(forest_goings(order), sum(shares_by_descents(order)))
            self.assertEqual(forest_goings(order), polynomial(order)[-1])

    def test_shapes(self):
        for shape in SHAPES:
            order = shape_order(shape)
            self.assertEqual(shape_goings(shape), sum(shares_by_descents(order)))
            for k in (-2, 3) + FAR_KS[:1]:
                self.assertEqual({road(k) for road in roads(order)}, {shape_count(shape, k)})

    def test_orders_put_together(self):
        orders = SMALL_ORDERS[::23]
        for one, other in itertools.product(orders, repeat=2):
            both = side_by_side(one, other)
            for k in (-3, 2, 5) + FAR_KS[:1]:
                self.assertEqual(count_at(both, k), count_at(one, k) * count_at(other, k))
            for call in (above_plain, above_strict):
                self.assertEqual(goings_many(call(one, other)), goings_many(one) * goings_many(other))
                for k in range(3):
                    self.assertEqual(count_at(call(one, other), k), count_by_trying(call(one, other), k))


if __name__ == "__main__":
    unittest.main()
