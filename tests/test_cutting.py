import itertools
import unittest

from risecount.cutting import cut, loose_pairs
from tests.helper import (
    FAR_NUMBERS, SMALL_ORDERS, chain_order, check, fillings_by_trying, greater_orders, loose_by_words, loose_order,
    pairs_from, put_by_words, refused, rises_by_words, told,
)

ORDERS = SMALL_ORDERS + greater_orders(131) + (loose_order(9), chain_order((3, 8, 1, 0, 7, 2, 6, 5, 4)))
EXAMPLE = ((), (0,), (0,))


class LoosePairsTest(unittest.TestCase):
    def test_orders_seen_by_eye(self):
        check(self, (), loose_pairs, ())
        check(self, (), loose_pairs, ((),))
        check(self, ((0, 1),), loose_pairs, ((), ()))
        check(self, (), loose_pairs, ((), (0,)))
        check(self, (), loose_pairs, ((1,), ()))
        check(self, ((1, 2),), loose_pairs, EXAMPLE)
        check(self, ((0, 2), (1, 2)), loose_pairs, ((1,), (), ()))

    def test_every_order_by_words(self):
        for order in ORDERS:
            check(self, loose_by_words(order), loose_pairs, order)

    def test_nine_things(self):
        check(self, tuple(itertools.combinations(range(9), 2)), loose_pairs, loose_order(9))
        for names in (tuple(range(9)), tuple(range(8, -1, -1))):
            check(self, (), loose_pairs, chain_order(names))


class CutTest(unittest.TestCase):
    def test_an_order_seen_by_eye(self):
        check(self, (((), (0,), (0, 1)), ((), (0, 2), (0,))), cut, EXAMPLE, 1, 2)
        check(self, (((), (0, 2), (0,)), ((), (0,), (0, 1))), cut, EXAMPLE, 2, 1)

    def test_every_loose_pair_either_way_about(self):
        for order in ORDERS:
            for a, b in loose_by_words(order):
                wanted = (put_by_words(order, a, b), put_by_words(order, b, a))
                check(self, wanted, cut, order, a, b)
                check(self, wanted[::-1], cut, order, b, a)

    def test_each_filling_rises_for_just_one_of_the_two(self):
        for order in SMALL_ORDERS:
            for a, b in loose_by_words(order):
                one, other = cut(order, a, b)
                for k in range(4):
                    parts = fillings_by_trying(one, k) + fillings_by_trying(other, k)
                    self.assertEqual(sorted(parts), fillings_by_trying(order, k))

    def test_fillings_of_greater_orders(self):
        for order in greater_orders(132, sizes=(5, 6)):
            for a, b in loose_by_words(order)[:3]:
                one, other = told(self, cut, order, a, b)
                for filling in fillings_by_trying(order, 3):
                    self.assertNotEqual(rises_by_words(one, filling, 3), rises_by_words(other, filling, 3))

    def test_no_thing(self):
        for order in ((), ((),), EXAMPLE, ((1,), ()), loose_order(9)):
            for stranger in (-1, -2, len(order), len(order) + 1) + FAR_NUMBERS:
                refused(self, "NoThing", cut, order, stranger, stranger)
                for thing in range(len(order)):
                    refused(self, "NoThing", cut, order, stranger, thing)
                    refused(self, "NoThing", cut, order, thing, stranger)

    def test_not_loose(self):
        for order in ORDERS:
            for thing in range(len(order)):
                refused(self, "NotLoose", cut, order, thing, thing)
            for a, b in pairs_from(order):
                refused(self, "NotLoose", cut, order, a, b)
                refused(self, "NotLoose", cut, order, b, a)

    def test_same_answer_behind_a_refusal(self):
        before = (cut(EXAMPLE, 1, 2), loose_pairs(EXAMPLE))
        refused(self, "NoThing", cut, EXAMPLE, 1, 3)
        refused(self, "NotLoose", cut, EXAMPLE, 0, 1)
        self.assertEqual(before, (cut(EXAMPLE, 1, 2), loose_pairs(EXAMPLE)))


if __name__ == "__main__":
    unittest.main()
