import unittest

from risecount.counts import count_at, polynomial
from risecount.fillings import count_plain
from risecount.turned import names_turned, upside_down
from tests.helper import (
    FAR_KS, SMALL_ORDERS, chain_order, check, count_by_trying, greater_orders, loose_order, names_turned_by_words,
    pairs_from, refused, told, upside_down_by_words,
)

GREAT_ORDERS = greater_orders(141) + (
    loose_order(9), chain_order(tuple(range(9))), chain_order((3, 8, 1, 0, 7, 2, 6, 5, 4)),
)
ORDERS = SMALL_ORDERS + GREAT_ORDERS
NEAR_KS = (-10, -4, -2, -1, 0, 1, 2, 3, 5, 10)


class NamesTurnedTest(unittest.TestCase):
    def test_orders_seen_by_eye(self):
        check(self, (), names_turned, ())
        check(self, ((),), names_turned, ((),))
        check(self, ((1,), ()), names_turned, ((), (0,)))
        check(self, ((), (0,)), names_turned, ((1,), ()))
        check(self, ((2,), (2,), ()), names_turned, ((), (0,), (0,)))
        check(self, ((1, 2), (2,), ()), names_turned, ((), (0,), (0, 1)))
        check(self, ((), (2, 3), (3,), ()), names_turned, ((), (0,), (0, 1), ()))

    def test_every_order_by_words(self):
        for order in ORDERS:
            check(self, names_turned_by_words(order), names_turned, order)

    def test_plain_ties_are_strict_then_and_strict_ones_plain(self):
        for order in ORDERS:
            last = len(order) - 1
            turned = {(last - a, last - b): a < b for a, b in pairs_from(order)}
            self.assertEqual({(a, b): a > b for a, b in pairs_from(names_turned(order))}, turned)

    def test_nine_things(self):
        check(self, loose_order(9), names_turned, loose_order(9))
        check(self, chain_order((8, 7, 6, 5, 4, 3, 2, 1, 0)), names_turned, chain_order(tuple(range(9))))


class UpsideDownTest(unittest.TestCase):
    def test_orders_seen_by_eye(self):
        check(self, (), upside_down, ())
        check(self, ((),), upside_down, ((),))
        check(self, ((1,), ()), upside_down, ((), (0,)))
        check(self, ((1, 2), (), ()), upside_down, ((), (0,), (0,)))
        check(self, ((1, 2), (2,), ()), upside_down, ((), (0,), (0, 1)))
        check(self, ((1, 2), (2,), (), ()), upside_down, ((), (0,), (0, 1), ()))

    def test_every_order_by_words(self):
        for order in ORDERS:
            check(self, upside_down_by_words(order), upside_down, order)

    def test_nine_things(self):
        check(self, loose_order(9), upside_down, loose_order(9))
        check(self, chain_order((4, 5, 6, 2, 7, 0, 1, 8, 3)), upside_down, chain_order((3, 8, 1, 0, 7, 2, 6, 5, 4)))


class BothTest(unittest.TestCase):
    def test_each_twice_leads_back(self):
        for order in ORDERS:
            self.assertEqual(names_turned(names_turned(order)), order)
            self.assertEqual(upside_down(upside_down(order)), order)

    def test_both_in_either_order_are_the_same(self):
        for order in ORDERS:
            self.assertEqual(names_turned(upside_down(order)), upside_down(names_turned(order)))

    def test_fillings_by_trying(self):
        for order in SMALL_ORDERS:
            for k in range(4):
                turned = count_by_trying(names_turned(order), k)
                self.assertEqual(turned, count_by_trying(upside_down(order), k))
                self.assertEqual(turned, (-1) ** len(order) * count_at(order, -k))
                self.assertEqual(count_by_trying(order, k), count_by_trying(upside_down(names_turned(order)), k))

    def test_counts(self):
        for order in SMALL_ORDERS[::5] + GREAT_ORDERS:
            turned, flipped = told(self, names_turned, order), told(self, upside_down, order)
            both = names_turned(flipped)
            sign = -1 if len(order) % 2 else 1
            for k in NEAR_KS + FAR_KS:
                self.assertEqual(count_at(order, -k), sign * count_at(turned, k), (order, k))
                self.assertEqual(count_at(flipped, k), count_at(turned, k), (order, k))
                self.assertEqual(count_at(both, k), count_at(order, k), (order, k))

    def test_polynomials(self):
        for order in ORDERS:
            turned = polynomial(names_turned(order))
            signs = [(-1) ** (len(order) + i) for i in range(len(order) + 1)]
            self.assertEqual(tuple(sign * factor for sign, factor in zip(signs, turned)), polynomial(order))
            self.assertEqual(polynomial(upside_down(order)), turned)
            self.assertEqual(polynomial(upside_down(names_turned(order))), polynomial(order))

    def test_same_answer_behind_a_refusal(self):
        order = ((), (0,), (0, 1), ())
        before = (names_turned(order), upside_down(order))
        refused(self, "NoNumber", count_plain, order, -1)
        self.assertEqual(before, (names_turned(order), upside_down(order)))


if __name__ == "__main__":
    unittest.main()
