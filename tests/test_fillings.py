import itertools
import random
import unittest

from risecount.fillings import count_plain, rises
from tests.helper import (
    FAR_NUMBERS, HUGE, K_60, SMALL_ORDERS, chain_order, check, greater_orders, loose_order, refused, rises_by_words,
)

PLAIN = ((), (0,))
STRICT = ((1,), ())


class RisesTest(unittest.TestCase):
    def test_plain_ties_do_not_fall(self):
        check(self, True, rises, PLAIN, (1, 2), 2)
        check(self, True, rises, PLAIN, (2, 2), 2)
        check(self, False, rises, PLAIN, (2, 1), 2)

    def test_strict_ties_rise(self):
        check(self, True, rises, STRICT, (2, 1), 2)
        check(self, False, rises, STRICT, (2, 2), 2)
        check(self, False, rises, STRICT, (1, 2), 2)

    def test_ties_that_are_not_bare(self):
        order = ((2,), (0, 2), ())
        check(self, True, rises, order, (2, 2, 1), 2)
        check(self, False, rises, order, (1, 1, 1), 2)
        mixed = ((1,), (), (0, 1))
        check(self, True, rises, mixed, (2, 1, 2), 2)
        check(self, False, rises, mixed, (2, 1, 1), 2)

    def test_small_orders_by_words(self):
        for order in SMALL_ORDERS:
            top = 3 if len(order) < 4 else 2
            for k in range(-1, top + 1):
                for filling in itertools.product(range(top + 2), repeat=len(order)):
                    self.assertIs(rises(order, filling, k), rises_by_words(order, filling, k))

    def test_greater_orders_by_words(self):
        chance = random.Random(31)
        for order in greater_orders(32):
            for turn in range(100):
                filling = tuple(sorted(chance.randrange(1, 9) for thing in order))
                if turn % 2:
                    filling = tuple(chance.randrange(1, 4) for thing in order)
                check(self, rises_by_words(order, filling, 8), rises, order, filling, 8)

    def test_numbers_below_1_and_above_k(self):
        check(self, True, rises, ((),), (1,), 1)
        for number in (0, -1, 2, 3) + FAR_NUMBERS:
            check(self, False, rises, ((),), (number,), 1)
            check(self, False, rises, loose_order(3), (1, 1, number), 1)
            check(self, False, rises, loose_order(3), (number, 1, 1), 1)

    def test_great_k(self):
        check(self, True, rises, PLAIN, (K_60, K_60), K_60)
        check(self, False, rises, STRICT, (K_60, K_60), K_60)
        check(self, True, rises, STRICT, (K_60, K_60 - 1), K_60)
        check(self, False, rises, PLAIN, (1, K_60 + 1), K_60)
        check(self, False, rises, PLAIN, (0, K_60), K_60)
        check(self, False, rises, PLAIN, (HUGE, HUGE), K_60)
        check(self, False, rises, PLAIN, (-HUGE, HUGE), K_60)

    def test_wrong_lengths(self):
        for order in ((), ((),), PLAIN, loose_order(9)):
            for size in (0, 1, 2, 3, 8, 9, 10, 299, 300):
                wanted = size == len(order)
                check(self, wanted, rises, order, (1,) * size, 1)
                check(self, False, rises, order, (HUGE,) * size + (-HUGE,), 5)

    def test_k_of_0_and_below(self):
        check(self, True, rises, (), (), 0)
        check(self, True, rises, (), (), 1)
        check(self, True, rises, (), (), K_60)
        for k in (-1, -2, -K_60):
            check(self, False, rises, (), (), k)
            check(self, False, rises, ((),), (k,), k)
            check(self, False, rises, ((),), (1,), k)
        check(self, False, rises, (), (1,), 0)
        check(self, False, rises, ((),), (), 0)
        check(self, False, rises, ((),), (0,), 0)
        check(self, False, rises, ((),), (1,), 0)


class CountPlainTest(unittest.TestCase):
    def test_small_orders(self):
        for order in SMALL_ORDERS:
            for k in range(4):
                filled = itertools.product(range(1, k + 1), repeat=len(order))
                wanted = sum(rises_by_words(order, filling, k) for filling in filled)
                check(self, wanted, count_plain, order, k)

    def test_order_of_no_things(self):
        for k in (0, 1, 2, 5000, 5001, K_60):
            check(self, 1, count_plain, (), k)

    def test_k_of_0(self):
        for n in range(1, 10):
            check(self, 0, count_plain, loose_order(n), 0)

    def test_k_of_1(self):
        check(self, 1, count_plain, loose_order(9), 1)
        check(self, 1, count_plain, chain_order(tuple(range(9))), 1)
        check(self, 0, count_plain, chain_order((1, 0)), 1)

    def test_known_counts(self):
        check(self, 512, count_plain, loose_order(9), 2)
        check(self, 10, count_plain, chain_order(tuple(range(9))), 2)
        check(self, 0, count_plain, chain_order((8, 7, 6, 5, 4, 3, 2, 1, 0)), 2)
        check(self, 10, count_plain, PLAIN, 4)
        check(self, 6, count_plain, STRICT, 4)
        check(self, 2485, count_plain, PLAIN, 70)
        check(self, 2415, count_plain, STRICT, 70)

    def test_just_what_can_be_gone_through_and_the_next_k(self):
        greatest = {1: 5000, 2: 70, 3: 17, 4: 8, 5: 5, 6: 4, 7: 3, 8: 2, 9: 2}
        for n, k in greatest.items():
            self.assertEqual(count_plain(loose_order(n), k), k ** n)
            refused(self, "TooGreat", count_plain, loose_order(n), k + 1)
            refused(self, "TooGreat", count_plain, chain_order(tuple(range(n))), k + 1)
            refused(self, "TooGreat", count_plain, loose_order(n), K_60)

    def test_no_number(self):
        for k in (-1, -2, -71, -5001, -K_60):
            for n in range(10):
                refused(self, "NoNumber", count_plain, loose_order(n), k)

    def test_same_answer_behind_a_refusal(self):
        before = count_plain(STRICT, 3)
        refused(self, "TooGreat", count_plain, STRICT, 71)
        refused(self, "NoNumber", count_plain, STRICT, -1)
        check(self, before, count_plain, STRICT, 3)


if __name__ == "__main__":
    unittest.main()
