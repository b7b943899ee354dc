import itertools
import math
import random
import unittest

from risecount.counts import chosen, count_at, pieces_many, polynomial, shares_by_steps
from risecount.goings import goings_many, shares_by_descents
from tests.helper import (
    FAR_KS, SMALL_ORDERS, chain_order, check, chosen_by_words, closure, count_by_trying, fillings_by_trying,
    goings_by_trying, greater_orders, loose_order, names_turned_by_words, pairs_from, rows_from, told,
)

MIDDLE_ORDERS = greater_orders(91, sizes=(5, 6))
GREAT_ORDERS = greater_orders(92) + (loose_order(9), chain_order((3, 8, 1, 0, 7, 2, 6, 5, 4)))
ORDERS = SMALL_ORDERS + MIDDLE_ORDERS + GREAT_ORDERS
NEAR_KS = tuple(range(-12, 13))


def value_at(factors, k):
    return sum(factor * k ** i for i, factor in enumerate(factors))


def zigzag(names):
    """Each second thing of the row lies under its neighbours: one piece, tied by roundabout ways only."""
    pairs = set()
    for place in range(0, len(names), 2):
        pairs |= {(names[place], names[near]) for near in (place - 1, place + 1) if 0 <= near < len(names)}
    return rows_from(len(names), pairs)


class ChosenTest(unittest.TestCase):
    def test_small_numbers(self):
        for x in range(-30, 31):
            for m in range(21):
                check(self, chosen_by_words(x, m), chosen, x, m)
                if x >= 0:
                    check(self, math.comb(x, m), chosen, x, m)

    def test_nothing_chosen(self):
        for x in (0, 1, -1, 10 ** 99, 1 - 10 ** 100):
            check(self, 1, chosen, x, 0)

    def test_known_numbers(self):
        check(self, 0, chosen, 0, 1)
        check(self, -1, chosen, -1, 1)
        check(self, 1, chosen, -1, 2)
        check(self, 0, chosen, 3, 4)
        check(self, 1, chosen, 20, 20)
        check(self, 184756, chosen, 20, 10)
        check(self, math.comb(39, 20), chosen, -20, 20)

    def test_numbers_of_up_to_a_hundred_figures(self):
        chance = random.Random(93)
        numbers = [10 ** 100 - 1, 1 - 10 ** 100] + [chance.randrange(10 ** 100) * sign for sign in (1, -1, 1, -1)]
        for x in numbers:
            for m in range(21):
                check(self, chosen_by_words(x, m), chosen, x, m)


class CountTest(unittest.TestCase):
    def test_small_orders_by_trying(self):
        for order in SMALL_ORDERS:
            for k in range(6 if len(order) < 4 else 5):
                check(self, count_by_trying(order, k), count_at, order, k)

    def test_greater_orders_by_trying(self):
        for order in MIDDLE_ORDERS:
            for k in range(5):
                check(self, count_by_trying(order, k), count_at, order, k)
        for order in GREAT_ORDERS:
            for k in range(3):
                check(self, count_by_trying(order, k), count_at, order, k)

    def test_k_below_0_by_the_order_with_names_turned(self):
        for order in SMALL_ORDERS + MIDDLE_ORDERS:
            sign = -1 if len(order) % 2 else 1
            for k in range(4):
                check(self, sign * count_by_trying(names_turned_by_words(order), k), count_at, order, -k)

    def test_order_of_no_things(self):
        for k in NEAR_KS + FAR_KS:
            check(self, 1, count_at, (), k)

    def test_things_with_no_tie_and_with_all(self):
        for n in range(10):
            for k in NEAR_KS + FAR_KS:
                check(self, k ** n, count_at, loose_order(n), k)
                check(self, chosen_by_words(k + n - 1, n) if n else 1, count_at, chain_order(tuple(range(n))), k)
                check(self, chosen_by_words(k, n), count_at, chain_order(tuple(range(n - 1, -1, -1))), k)

    def test_counts_are_one_polynomial(self):
        for order in ORDERS[::7] + GREAT_ORDERS:
            for k in FAR_KS[:2] + (0, 3, -40):
                steps = [count_at(order, k + step) for step in range(len(order) + 2)]
                while len(steps) > 1:
                    steps = [b - a for a, b in zip(steps, steps[1:])]
                self.assertEqual(steps, [0])


class PolynomialTest(unittest.TestCase):
    def test_known_polynomials(self):
        check(self, (1,), polynomial, ())
        check(self, (0, 1), polynomial, ((),))
        check(self, (0, 1, 1), polynomial, ((), (0,)))
        check(self, (0, -1, 1), polynomial, ((1,), ()))
        check(self, (0, 0, 2), polynomial, ((), ()))
        check(self, (0,) * 9 + (362880,), polynomial, loose_order(9))

    def test_its_value_is_the_count_times_the_ways_to_stand(self):
        for order in ORDERS:
            factors = told(self, polynomial, order)
            self.assertIs(type(factors), tuple)
            self.assertEqual(len(factors), len(order) + 1)
            times = math.factorial(len(order))
            shares = shares_by_descents(order)
            n = len(order)
            for k in NEAR_KS + FAR_KS:
                wanted = sum(share * chosen_by_words(k + n - 1 - d, n) for d, share in enumerate(shares))
                self.assertEqual(value_at(factors, k), times * wanted)

    def test_against_trying(self):
        for order in SMALL_ORDERS:
            factors = polynomial(order)
            for k in range(len(order) + 1):
                self.assertEqual(value_at(factors, k), math.factorial(len(order)) * count_by_trying(order, k))

    def test_the_last_one_is_the_number_of_goings(self):
        for order in SMALL_ORDERS + MIDDLE_ORDERS:
            self.assertEqual(polynomial(order)[-1], len(goings_by_trying(order)))
        for order in GREAT_ORDERS:
            self.assertEqual(polynomial(order)[-1], goings_many(order))

    def test_count_is_the_sum_over_the_shares_by_descents(self):
        for order in ORDERS[::5] + GREAT_ORDERS:
            shares = shares_by_descents(order)
            n = len(order)
            for k in NEAR_KS + FAR_KS:
                wanted = sum(share * chosen_by_words(k + n - 1 - d, n) for d, share in enumerate(shares))
                self.assertEqual(count_at(order, k), wanted)


class StepsTest(unittest.TestCase):
    def steps_by_trying(self, order):
        return tuple(
            sum(set(filling) == set(range(1, j + 1)) for filling in fillings_by_trying(order, j))
            for j in range(len(order) + 1)
        )

    def test_known_shares(self):
        check(self, (1,), shares_by_steps, ())
        check(self, (0, 1), shares_by_steps, ((),))
        check(self, (0, 1, 1), shares_by_steps, ((), (0,)))
        check(self, (0, 0, 1), shares_by_steps, ((1,), ()))
        check(self, (0, 1, 2), shares_by_steps, ((), ()))
        check(self, (0, 0, 0, 0, 0, 0, 0, 0, 0, 1), shares_by_steps, chain_order((8, 7, 6, 5, 4, 3, 2, 1, 0)))
        check(self, (0,) + tuple(math.comb(8, j) for j in range(9)), shares_by_steps, chain_order(tuple(range(9))))
        onto = (0, 1, 510, 18150, 186480, 834120, 1905120, 2328480, 1451520, 362880)
        check(self, onto, shares_by_steps, loose_order(9))

    def test_by_trying(self):
        for order in SMALL_ORDERS + greater_orders(94, sizes=(5,)):
            check(self, self.steps_by_trying(order), shares_by_steps, order)

    def test_the_sum_over_them_is_the_count(self):
        for order in ORDERS:
            shares = told(self, shares_by_steps, order)
            self.assertEqual(len(shares), len(order) + 1)
            for k in (-9, -1, 0, 1, 2, 11) + FAR_KS[:2]:
                wanted = sum(share * chosen_by_words(k, j) for j, share in enumerate(shares))
                self.assertEqual(count_at(order, k), wanted)

    def test_the_first_and_the_last_one(self):
        for order in ORDERS:
            shares = shares_by_steps(order)
            self.assertEqual(shares[0], 0 if order else 1)
            self.assertEqual(shares[-1], goings_many(order))


class PiecesTest(unittest.TestCase):
    def pieces_by_words(self, order):
        both = pairs_from(order) | {(b, a) for a, b in pairs_from(order)}
        reached = closure(len(order), both)
        return len({frozenset({a} | {b for b in range(len(order)) if (a, b) in reached}) for a in range(len(order))})

    def test_no_tie_and_all_ties(self):
        check(self, 0, pieces_many, ())
        for n in range(1, 10):
            check(self, n, pieces_many, loose_order(n))
            check(self, 1, pieces_many, chain_order(tuple(range(n))))
            check(self, 1, pieces_many, chain_order(tuple(range(n - 1, -1, -1))))

    def test_roundabout_ways(self):
        chance = random.Random(95)
        for n in range(1, 10):
            for turn in range(20):
                check(self, 1, pieces_many, zigzag(tuple(chance.sample(range(n), n))))

    def test_several_pieces_by_roundabout_ways(self):
        chance = random.Random(96)
        for turn in range(50):
            names = tuple(chance.sample(range(9), 9))
            order = zigzag(names)
            left_out = set(chance.sample(range(8), 3))
            kept = {(a, b) for a, b in pairs_from(order) if min(names.index(a), names.index(b)) not in left_out}
            check(self, 4, pieces_many, rows_from(9, kept))

    def test_every_order_by_words(self):
        for order in ORDERS:
            check(self, self.pieces_by_words(order), pieces_many, order)

    def test_lower_factors_are_0(self):
        for order in ORDERS:
            self.assertFalse(any(polynomial(order)[:pieces_many(order)]))


if __name__ == "__main__":
    unittest.main()
