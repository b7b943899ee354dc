import itertools
import unittest

from risecount.counts import count_at
from risecount.fillings import count_plain, rises
from risecount.least import least_k, lowest
from tests.helper import (
    SMALL_ORDERS, chain_order, check, fillings_by_trying, greater_orders, loose_order, pairs_from, refused,
    rises_by_words, rows_from, told,
)

GREAT_ORDERS = greater_orders(161) + greater_orders(162) + greater_orders(163, shares=(0.15, 0.3, 0.4))
CHAIN_NAMES = ((8, 7, 6, 5, 4, 3, 2, 1, 0), tuple(range(9)), (3, 8, 1, 0, 7, 2, 6, 5, 4), (4, 0, 5, 1, 6, 2, 7, 3, 8))


def chains_of(order):
    """All rows of things, each one under the next one, of whatever length from one on."""
    pairs = pairs_from(order)
    chains = longer = [(thing,) for thing in range(len(order))]
    while longer:
        longer = [chain + (b,) for chain in longer for a, b in pairs if a == chain[-1]]
        chains = chains + longer
    return chains


def strict_in(chain):
    return sum(a > b for a, b in zip(chain, chain[1:]))


class LeastKTest(unittest.TestCase):
    def seen(self, order):
        """The least k, its chain seen to be one that shows it."""
        k, chain = told(self, least_k, order)
        self.assertIs(type(k), int)
        if not order:
            self.assertEqual((k, chain), (0, ()))
            return k
        self.assertGreater(len(chain), 0)
        self.assertTrue(all(0 <= thing < len(order) for thing in chain))
        pairs = pairs_from(order)
        self.assertTrue(all(tie in pairs for tie in zip(chain, chain[1:])), (order, chain))
        self.assertEqual(strict_in(chain), k - 1, (order, chain))
        return k

    def test_order_of_no_things(self):
        check(self, (0, ()), least_k, ())

    def test_one_and_two_things(self):
        check(self, (1, (0,)), least_k, ((),))
        check(self, (2, (1, 0)), least_k, ((1,), ()))
        self.assertEqual(self.seen(((), ())), 1)
        self.assertEqual(self.seen(((), (0,))), 1)

    def test_small_orders_by_trying(self):
        for order in SMALL_ORDERS:
            k = self.seen(order)
            self.assertTrue(fillings_by_trying(order, k))
            for less in range(k):
                self.assertFalse(fillings_by_trying(order, less))

    def test_greater_orders_by_all_chains(self):
        for order in GREAT_ORDERS:
            self.assertEqual(self.seen(order), 1 + max(map(strict_in, chains_of(order))))

    def test_greater_orders_by_the_counts(self):
        for order in GREAT_ORDERS:
            k = self.seen(order)
            self.assertGreater(count_at(order, k), 0)
            self.assertEqual([count_at(order, less) for less in range(k)], [0] * k)

    def test_nine_things(self):
        falling, rising, mixed, saw = map(chain_order, CHAIN_NAMES)
        check(self, (9, (8, 7, 6, 5, 4, 3, 2, 1, 0)), least_k, falling)
        self.assertEqual(self.seen(rising), 1)
        self.assertEqual(self.seen(mixed), 6)
        self.assertEqual(self.seen(saw), 5)
        self.assertEqual(self.seen(loose_order(9)), 1)

    def test_a_tie_that_is_not_bare_may_be_the_strict_one(self):
        # 1 under 2 under 0: the tie from 1 to 0 is strict and not bare; 2 under 0 under 1, too.
        for order in (((1, 2), (), (1,)), ((2,), (0, 2), ())):
            self.assertEqual(self.seen(order), 2)

    def test_a_greatest_chain_that_passes_by_bare_ties(self):
        # 3 under 2 by 4 and 5 as well as straight: the chain is as strict with those between or without.
        self.assertEqual(self.seen(rows_from(6, {(3, 4), (3, 5), (4, 5), (3, 2), (4, 2), (5, 2)})), 2)
        # 4 under 0 under 5 under 1, and so on: of the bare ties only each second one is strict.
        self.assertEqual(self.seen(chain_order((4, 0, 5, 1, 6, 2, 7, 3))), 5)

    def test_many_strict_ties_that_are_no_chain(self):
        star = rows_from(9, {(8, thing) for thing in range(8)})
        self.assertEqual(self.seen(star), 2)
        self.assertEqual(self.seen(rows_from(9, {(thing, 0) for thing in range(1, 9)})), 2)

    def test_the_strictest_chain_is_not_the_longest_one(self):
        order = rows_from(9, {(a, b) for a, b in itertools.combinations(range(2, 9), 2)} | {(1, 0)})
        check(self, (2, (1, 0)), least_k, order)

    def test_same_answer_behind_a_refusal(self):
        order = ((1, 2), (), (1,))
        before = (least_k(order), lowest(order))
        refused(self, "NoNumber", count_plain, order, -1)
        self.assertEqual(before, (least_k(order), lowest(order)))


class LowestTest(unittest.TestCase):
    def lowest_by_trying(self, order, k):
        """At each thing the least number of all fillings by k that rise."""
        return tuple(map(min, zip(*fillings_by_trying(order, k))))

    def test_orders_seen_by_eye(self):
        check(self, (), lowest, ())
        check(self, (1,), lowest, ((),))
        check(self, (1, 1), lowest, ((), ()))
        check(self, (1, 1), lowest, ((), (0,)))
        check(self, (2, 1), lowest, ((1,), ()))
        check(self, (2, 1, 1), lowest, ((1, 2), (), (1,)))
        check(self, (2, 2, 1), lowest, ((2,), (0, 2), ()))

    def test_small_orders_by_trying(self):
        for order in SMALL_ORDERS:
            for k in range(least_k(order)[0], 5):
                check(self, self.lowest_by_trying(order, k), lowest, order)

    def test_greater_orders_by_trying(self):
        for order in greater_orders(164, sizes=(5, 6)):
            k = least_k(order)[0]
            if k < 5:
                check(self, self.lowest_by_trying(order, k), lowest, order)

    def test_it_rises_by_the_least_k_and_nothing_can_be_less(self):
        for order in SMALL_ORDERS + GREAT_ORDERS:
            filling = told(self, lowest, order)
            k = least_k(order)[0]
            self.assertTrue(rises_by_words(order, filling, k))
            self.assertIs(rises(order, filling, k), True)
            self.assertEqual(max(filling, default=0), k)
            # Each number is 1, or is asked for by a tie from a thing that has no lesser number itself.
            for b, number in enumerate(filling):
                asked = [filling[a] + (a > b) for a in order[b]]
                self.assertEqual(number, max(asked, default=1))

    def test_nine_things(self):
        wanted = [tuple(range(9, 0, -1)), (1,) * 9, (3, 2, 4, 1, 6, 5, 4, 3, 1), (2, 3, 4, 5, 1, 2, 3, 4, 5)]
        for names, numbers in zip(CHAIN_NAMES, wanted):
            check(self, numbers, lowest, chain_order(names))
        check(self, (1,) * 9, lowest, loose_order(9))


if __name__ == "__main__":
    unittest.main()
