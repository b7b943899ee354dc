import math
import unittest

from risecount.chains import chain_table
from risecount.counts import shares_by_steps
from tests.helper import (
    SMALL_ORDERS, chain_order, check, downsets_by_trying, fillings_by_trying, greater_orders, is_calm_by_words,
    loose_order, told,
)

MIDDLE_ORDERS = greater_orders(121, sizes=(5,))
GREAT_ORDERS = greater_orders(122, sizes=(6, 7, 8, 9)) + (loose_order(9), chain_order((3, 8, 1, 0, 7, 2, 6, 5, 4)))


def chains_by_words(order):
    """All chains from () on, whatever their last downset, made longer one step at a time."""
    held = [frozenset(things) for things in downsets_by_trying(order)]
    chains = [(frozenset(),)]
    for chain in chains:
        chains += [chain + (more,) for more in held if more > chain[-1] and is_calm_by_words(order, more - chain[-1])]
    return chains


def table_by_words(order):
    counts = {things: [0] * (len(order) + 1) for things in downsets_by_trying(order)}
    for chain in chains_by_words(order):
        counts[tuple(sorted(chain[-1]))][len(chain) - 1] += 1
    return tuple((things, tuple(some)) for things, some in counts.items())


class ChainTableTest(unittest.TestCase):
    def test_orders_seen_by_eye(self):
        check(self, (((), (1,)),), chain_table, ())
        check(self, (((), (1, 0)), ((0,), (0, 1))), chain_table, ((),))
        plain = (((), (1, 0, 0)), ((0,), (0, 1, 0)), ((0, 1), (0, 1, 1)))
        check(self, plain, chain_table, ((), (0,)))
        strict = (((), (1, 0, 0)), ((1,), (0, 1, 0)), ((0, 1), (0, 0, 1)))
        check(self, strict, chain_table, ((1,), ()))
        loose = (((), (1, 0, 0)), ((0,), (0, 1, 0)), ((1,), (0, 1, 0)), ((0, 1), (0, 1, 2)))
        check(self, loose, chain_table, ((), ()))

    def test_by_going_through_the_chains(self):
        for order in SMALL_ORDERS + MIDDLE_ORDERS:
            check(self, table_by_words(order), chain_table, order)

    def test_rows_of_greater_orders(self):
        for order in GREAT_ORDERS:
            table = told(self, chain_table, order)
            self.assertEqual([row[0] for row in table], downsets_by_trying(order))
            self.assertTrue(all(len(row) == 2 and len(row[1]) == len(order) + 1 for row in table))
            self.assertEqual(table[0], ((), (1,) + (0,) * len(order)))
            self.assertTrue(all(row[1][0] == 0 for row in table[1:]))

    def test_the_last_rows_counts_are_the_shares_by_steps(self):
        for order in SMALL_ORDERS + MIDDLE_ORDERS + GREAT_ORDERS:
            self.assertEqual(chain_table(order)[-1], (tuple(range(len(order))), shares_by_steps(order)))

    def test_the_last_rows_counts_by_going_through_the_fillings(self):
        for order in SMALL_ORDERS:
            wanted = tuple(
                sum(len(set(filling)) == j for filling in fillings_by_trying(order, j))
                for j in range(len(order) + 1)
            )
            self.assertEqual(chain_table(order)[-1][1], wanted)

    def test_nine_things_with_no_tie(self):
        table = told(self, chain_table, loose_order(9))
        self.assertEqual(len(table), 512)
        for things, counts in table:
            # Chains to m things that are all loose are the ways to part them into j rooms, none empty.
            m = len(things)
            wanted = [sum((-1) ** i * math.comb(j, i) * (j - i) ** m for i in range(j + 1)) for j in range(10)]
            self.assertEqual(list(counts), wanted)

    def test_nine_things_with_all_ties(self):
        rising = chain_table(chain_order(tuple(range(9))))
        self.assertEqual(rising[-1][1], (0,) + tuple(math.comb(8, j) for j in range(9)))
        falling = chain_table(chain_order(tuple(range(8, -1, -1))))
        self.assertEqual([row[1].index(1) for row in falling], list(range(10)))
        self.assertTrue(all(sum(row[1]) == 1 for row in falling))

    def test_strict_ties_that_are_not_bare(self):
        # 1 under 2 under 0: the tie from 1 to 2 is plain, both ties to 0 are strict, one of them not bare.
        table = told(self, chain_table, ((1, 2), (), (1,)))
        self.assertEqual(table[-1], ((0, 1, 2), (0, 0, 1, 1)))
        self.assertEqual(table[-2], ((1, 2), (0, 1, 1, 0)))


if __name__ == "__main__":
    unittest.main()
