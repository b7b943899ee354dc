import random
import unittest

from risecount.bases import descents_from, steps_of, value_of_descents, value_of_steps
from risecount.goings import shares_by_descents
from tests.helper import (
    FAR_NUMBERS, HUGE, K_60, SMALL_ORDERS, check, chosen_by_words, count_by_trying, fillings_by_trying,
    greater_orders, told,
)

KS = tuple(range(-12, 13)) + (K_60, -K_60, 10 ** 59 + 1, -(10 ** 59) - 1)
NOUGHTS = (0,) * 9


def sum_by_descents(shares, k):
    n = len(shares)
    return sum(share * chosen_by_words(k + n - 1 - d, n) for d, share in enumerate(shares))


def sum_by_steps(shares, k):
    return sum(share * chosen_by_words(k, j) for j, share in enumerate(shares))


def some_shares(seed, sizes):
    """Tuples of whole numbers of either sign, of one and of many figures."""
    chance = random.Random(seed)
    found = []
    for size in sizes:
        found += [tuple(0 for place in range(size)), tuple(chance.choice(FAR_NUMBERS) for place in range(size))]
        for most in (2, 10, 10 ** 30, 10 ** 600):
            found += [tuple(chance.randrange(1 - most, most) for place in range(size)) for turn in range(3)]
    return found


class ValuesTest(unittest.TestCase):
    def test_shares_by_descents(self):
        for shares in some_shares(101, range(1, 10)):
            for k in KS:
                check(self, sum_by_descents(shares, k), value_of_descents, shares, k)

    def test_shares_by_steps_the_first_one_any(self):
        for shares in some_shares(102, range(1, 11)):
            for k in KS:
                check(self, sum_by_steps(shares, k), value_of_steps, shares, k)

    def test_known_values(self):
        for k in KS:
            check(self, k, value_of_descents, (1,), k)
            check(self, k, value_of_steps, (0, 1), k)
            check(self, 1, value_of_steps, (1,), k)
            check(self, -HUGE, value_of_steps, (-HUGE,), k)
            check(self, HUGE * k, value_of_descents, (HUGE,), k)
            check(self, k * k, value_of_descents, (1, 1), k)
            check(self, 5 + k * k, value_of_steps, (5, 1, 2), k)
            check(self, 0, value_of_descents, NOUGHTS, k)

    def test_shares_of_orders_have_the_counts(self):
        for order in SMALL_ORDERS[1:]:
            for k in range(4):
                check(self, count_by_trying(order, k), value_of_descents, shares_by_descents(order), k)


class ThereAndBackTest(unittest.TestCase):
    def test_known_pairs(self):
        for descents, steps in (
            ((1,), (0, 1)), ((HUGE,), (0, HUGE)), ((0,), (0, 0)), ((1, 0), (0, 1, 1)), ((0, 1), (0, 0, 1)),
            ((1, 1), (0, 1, 2)), ((0, 0, 1), (0, 0, 0, 1)), ((1, 0, 0), (0, 1, 2, 1)), (NOUGHTS, (0,) + NOUGHTS),
            ((1, -1), (0, 1, 0)), ((-1, 0), (0, -1, -1)),
            ((1, 502, 14608, 88234, 156190, 88234, 14608, 502, 1),
             (0, 1, 510, 18150, 186480, 834120, 1905120, 2328480, 1451520, 362880)),
        ):
            check(self, steps, steps_of, descents)
            check(self, descents, descents_from, steps)

    def test_one_undoes_the_other(self):
        for shares in some_shares(103, range(1, 10)):
            steps = told(self, steps_of, shares)
            self.assertEqual(len(steps), len(shares) + 1)
            self.assertEqual(steps[0], 0)
            check(self, shares, descents_from, steps)

    def test_the_other_undoes_the_one(self):
        for some in some_shares(104, range(1, 10)):
            shares = (0,) + some
            descents = told(self, descents_from, shares)
            self.assertEqual(len(descents), len(shares) - 1)
            check(self, shares, steps_of, descents)

    def test_both_sums_are_the_same(self):
        for shares in some_shares(105, range(1, 10)):
            steps = steps_of(shares)
            descents = descents_from((0,) + shares)
            for k in KS:
                self.assertEqual(sum_by_steps(steps, k), sum_by_descents(shares, k))
                self.assertEqual(sum_by_descents(descents, k), sum_by_steps((0,) + shares, k))

    def test_shares_of_orders_go_with_one_another(self):
        for order in SMALL_ORDERS[1:] + greater_orders(106, sizes=(5,)):
            steps = tuple(
                sum(len(set(filling)) == j for filling in fillings_by_trying(order, j))
                for j in range(len(order) + 1)
            )
            check(self, steps, steps_of, shares_by_descents(order))
            check(self, shares_by_descents(order), descents_from, steps)


if __name__ == "__main__":
    unittest.main()
